import PyProof.Rows.All
import Wide.All
import OpenK.AllK
import Wide.FinOn
import HandS.Base
import HandS.Call
import HandS.List
import HandS.Comp
import HandS.Dict
import HandS.Iter
import HandS.Text
import HandS.Ends
import HandS.Words
import HandS.WordsList
import HandS.Exc
import HandS.ExcOwn
import HandS.TryOnly
import HandS.ExcInit
import HandS.More
import HandS.Defaults
import HandS.Walk
import KE.KExcIs
import HandS.IsInst
import HandS.ExcIs
import HandS.ExcField
import HandS.Style
import HandS.WordsExc
import HandS.Head0
import HandS.Head1
import HandS.Head2
import HandS.HeadEnd
import HandS.HeadHook1
import HandS.HeadHook2
import HandS.HeadHook3
import HandS.ExcCtx
import HandS.HotCalls
import HandS.ClsMeth
import HandS.Star
import HandS.MakeKwOnly
import HandS.Wide
import HandS.ListItems
import HandS.Finally
import KE.KDictList
import PyProof.FactsAll.dict_3
import HandS.HeadNt
import HandS.Property
import HandS.DictComp
import PySem.Challenge.RW_filteredcopies_k31_messages_made
set_option Elab.async false
set_option linter.all false
set_option maxRecDepth 100000
set_option maxHeartbeats 4000000
namespace Lw
open PySem PySem.Spec PyProof.Rows L2
abbrev MethD (K : PySem.W.Frag) (x q : Str) (st : Stmt) (f : Addr) (fd : FuncData) : Prop := FunD K x q (defArgs st) (defBody st) (defScope st) [] [] f fd
/-! heaps: all but what stands at a is kept -/
def Keep (a : Addr) (H H' : Hp) : Prop := ∀ b o, b ≠ a → H b = some o → H' b = some o
theorem Keep.refl {a : Addr} (H : Hp) : Keep a H H := fun _ _ _ h => h
theorem Keep.trans {a : Addr} {H H1 H2 : Hp} (x : Keep a H H1) (y : Keep a H1 H2) : Keep a H H2 := fun b o n h => y b o n (x b o n h)
theorem Keep.of_same {a : Addr} {H H' : Hp} (s : Same H H') : Keep a H H' := fun b o _ h => s b o h
theorem Keep.upd {a : Addr} {H H' : Hp} {o : HO} (k : Keep a H H') : Keep a H (upd H' a o) := fun b u n h => by
  rw [upd_ne n]
  exact k b u n h
theorem Keep.new {a p : Addr} {H H' : Hp} {o : HO} (k : Keep a H H') (hp : H' p = none) : Keep a H (L2.upd H' p o) := fun b u n h => by
  rw [upd_ne (ne_of_none (k b u n h) hp)]
  exact k b u n h
theorem Keep.seq {K : PySem.W.Frag} {a b : Addr} {H H' : Hp} {xs : List V} (k : Keep a H H') (n : b ≠ a) (h : SqL K H b xs) : SqL K H' b xs := by
  rcases h with (h | ⟨o, h⟩) | h
  · exact .inl (.inl (k _ _ n h))
  · exact .inl (.inr ⟨o, k _ _ n h⟩)
  · exact .inr h
theorem Keep.seqT {K : PySem.W.Frag} {a b : Addr} {H H' : Hp} {xs : List V} (k : Keep a H H') (n : b ≠ a) (h : SqT K H b xs) : SqT K H' b xs := by
  rcases h with (h | ⟨o, h⟩) | h
  · exact .inl (.inl (k _ _ n h))
  · exact .inl (.inr ⟨o, k _ _ n h⟩)
  · exact .inr h
/-- the drawing's source: three numbers; n bounds how often was drawn -/
def Src (H : Hp) (a : Addr) (n : Nat) : Prop := ∃ d s t : Int, H a = some (.lst [.int d, .int s, .int t]) ∧ 0 ≤ d ∧ 0 ≤ s ∧ s < 9223372036854775808 ∧ 0 ≤ t ∧ t ≤ (n : Int)
theorem Src.mono {H : Hp} {a : Addr} {n m : Nat} (h : Src H a n) (l : n ≤ m) : Src H a m := by
  obtain ⟨d, s, t, h1, h2, h3, h4, h5, h6⟩ := h
  exact ⟨d, s, t, h1, h2, h3, h4, h5, by omega⟩
theorem Src.new {H : Hp} {a p : Addr} {n : Nat} {o : HO} (h : Src H a n) (hp : H p = none) : Src (upd H p o) a n := by
  obtain ⟨d, s, t, h1, h2⟩ := h
  exact ⟨d, s, t, by rw [upd_ne (ne_of_none h1 hp)]; exact h1, h2⟩
theorem Src.ne {H : Hp} {a p : Addr} {n : Nat} (h : Src H a n) (hp : H p = none) : p ≠ a := by
  obtain ⟨d, s, t, h1, _⟩ := h
  exact (ne_of_none h1 hp).symm
abbrev big : Nat := 1000000000
/-! steps: a statement's reading by what its expression comes to -/
section
variable {te : TE} {c : TT} {u v t1 t2 : TS} {D : Ends} {σ : L2.St} {H : Hp} {i : Nat}
theorem sq_set (P : V → Hp → Prop) (h : ∀ Q : VK, (∀ x H', P x H' → Q x H') → te σ H Q) (k : ∀ x H', P x H' → u D (σ.set i (some x)) H') : tSeq (tAsg te (gName i)) u D σ H := h _ k
theorem s1_set (P : V → Hp → Prop) (h : ∀ Q : VK, (∀ x H', P x H' → Q x H') → te σ H Q) (k : ∀ x H', P x H' → D.nx (σ.set i (some x)) H') : (tAsg te (gName i)) D σ H := h _ k
theorem sq_par {j : Nat} {ta : TA} (P : V → V → Hp → Prop) (h : ∀ Q : List V → Hp → Prop, (∀ x y H', P x y H' → Q [x, y] H') → ta σ H Q) (k : ∀ x y H', P x y H' → u D ((σ.set i (some x)).set j (some y)) H') : tSeq (tPar i j ta) u D σ H := h _ fun x y H' p => ⟨x, y, rfl, k x y H' p⟩
theorem sq_do (P : V → Hp → Prop) (h : ∀ Q : VK, (∀ x H', P x H' → Q x H') → te σ H Q) (k : ∀ x H', P x H' → u D σ H') : tSeq (tDrop te) u D σ H := h _ k
theorem sq_if (P : Bool → Hp → Prop) (h : ∀ Q : Bool → Hp → Prop, (∀ b H', P b H' → Q b H') → c σ H Q) (kt : ∀ H', P true H' → t1 { D with nx := u D } σ H') (kf : ∀ H', P false H' → t2 { D with nx := u D } σ H') : tSeq (tIfS c t1 t2) u D σ H :=
  h _ fun b H' p => by
    cases b with
    | true => rw [if_pos rfl]; exact kt H' p
    | false => rw [if_neg Bool.false_ne_true]; exact kf H' p
theorem sq_if1 (P : Bool → Hp → Prop) (h : ∀ Q : Bool → Hp → Prop, (∀ b H', P b H' → Q b H') → c σ H Q) (kt : ∀ H', P true H' → t1 { D with nx := u D } σ H') (kf : ∀ H', P false H' → u D σ H') : tSeq (tIfS c t1 tNext) u D σ H := sq_if P h kt kf
theorem s1_if (P : Bool → Hp → Prop) (h : ∀ Q : Bool → Hp → Prop, (∀ b H', P b H' → Q b H') → c σ H Q) (kt : ∀ H', P true H' → t1 D σ H') (kf : ∀ H', P false H' → t2 D σ H') : (tIfS c t1 t2) D σ H :=
  h _ fun b H' p => by
    cases b with
    | true => rw [if_pos rfl]; exact kt H' p
    | false => rw [if_neg Bool.false_ne_true]; exact kf H' p
theorem s1_ret (P : V → Hp → Prop) (h : ∀ Q : VK, (∀ x H', P x H' → Q x H') → te σ H Q) (k : ∀ x H', P x H' → D.rt x H') : tRet te D σ H := h _ k
end
/-! promises -/
def spSource (K : PySem.W.Frag) : Sp := fun vs H Q _ => ∃ (a : Addr) (ns : List Int) (i : Int), vs = [.ref a, .int i] ∧ SqL K H a (ns.map V.int) ∧ ns.length ≤ 1000 ∧ 0 ≤ i ∧ i ≤ 1000 ∧
  ∀ p H', H p = none → Same H H' → Src H' p 0 → Q (.ref p) H'
def spDraw : Sp := fun vs H Q _ => ∃ (a : Addr) (n : Nat) (m : Int), vs = [.ref a, .int m] ∧ Src H a n ∧ n ≤ 1000000000 ∧ 0 < m ∧ m ≤ 1000000000 ∧
  ∀ H' i, Keep a H H' → Src H' a (n + 1) → 0 ≤ i → i < m → Q (.int i) H'
def spOf (K : PySem.W.Frag) : Sp := fun vs H Q _ => ∃ (a b : Addr) (n : Nat) (xs : List V), vs = [.ref a, .ref b] ∧ Src H a n ∧ n ≤ 1000000000 ∧ b ≠ a ∧ SqL K H b xs ∧ xs ≠ [] ∧ xs.length ≤ 100000 ∧
  ∀ H' x, Keep a H H' → Src H' a (n + 1) → x ∈ xs → Q x H'
def spNumber : Sp := fun vs H Q _ => ∃ (a : Addr) (n : Nat), vs = [.ref a] ∧ Src H a n ∧ n ≤ 900000000 ∧
  ∀ H' i, Keep a H H' → Src H' a (n + 8) → Q (.int i) H'
structure TxtD (mg : Str → Option Value) : Prop where
  len : mg "len" = none
  abs : mg "abs" = none
  int : mg "int" = none
  range : mg "range" = none
abbrev FnP (K : PySem.W.Frag) (x : Str) (st : Stmt) (f : Addr) (fd : FuncData) : Prop := FunD K x x (defArgs st) (defBody st) (defScope st) [] [] f fd
section
variable {P : Program} {w : World} {K : PySem.W.Frag} {mg : Str → Option Value} {base : Heap}
theorem bool_ite {c : Prop} [Decidable c] {A B : Prop} (h1 : c → A) (h2 : ¬ c → B) : if decide c = true then A else B := by
  by_cases h : c
  · rw [decide_eq_true h, if_pos rfl]; exact h1 h
  · rw [decide_eq_false h, if_neg Bool.false_ne_true]; exact h2 h
theorem atI_get {α : Type} {xs : List α} {i : Int} (h0 : 0 ≤ i) (h1 : i < xs.length) : ∃ x, atI xs i = some x ∧ x ∈ xs := by
  have e : i.toNat < xs.length := by omega
  refine ⟨xs[i.toNat], ?_, List.getElem_mem e⟩
  unfold atI ixN
  rw [if_pos h0, if_pos h1]
  simp [e]
theorem fmod_src (x : Int) : 0 ≤ x.fmod 2305843009213693951 ∧ x.fmod 2305843009213693951 < 2305843009213693951 :=
  ⟨Int.fmod_nonneg_of_pos x (by decide), Int.fmod_lt_of_pos x (by decide)⟩

/-! a def of the top, called by its name -/
def DefIs (K : PySem.W.Frag) (mg : Str → Option Value) (x : Str) (st : Stmt) : Prop := ∃ f fd, mg x = some (.ref f) ∧ FnP K x st f fd
structure Cal (P : Program) (w : World) (K : PySem.W.Frag) (mg : Str → Option Value) (base : Heap) (CX : CXT) (x : Str) (k : Nat) (ps : List Str) (sp : Sp) : Prop where
  ex : ∃ f fd, mg x = some (.ref f) ∧ PySem.W.keepIn K (.ref f) = true ∧ FnOk P w K mg base CX k f fd ps sp ∧ Binds K fd ps []
end
section
variable {X : Cx} {x : Str} {p pos : Pos} {e : Expr} {es : List Expr} {t : TA} {k : Nat} {ps : List Str} {sp : Sp}
theorem pe_cal (c : Cal X.prog X.w X.K X.mg X.base CX0 x k ps sp) (hr : Room k X.A) (ha : PA X (e :: es) t) (hg : Gl X x := by rfl) (hdb : (x == ("__debug__" : Str)) = false := by decide)
    (he : starEach (e :: es) X.env = (false, eval e X.env) :: starEach es X.env := by rfl) (hpl : (backTo pos (starEach es X.env)).any (·.1) = false := by rfl) :
    PE X (.Call (.Name x p) (e :: es) [] pos) (tCall sp [] E0 t) := by
  obtain ⟨f, fd, hm, hk, F, b⟩ := c.ex
  exact pe_call F hr hg hm hk b .nil pass0 ha hdb he hpl
end
section
variable {P : Program} {w : World} {K : PySem.W.Frag} {mg : Str → Option Value} {base : Heap}
end
/-! words -/
def IsWord (z : Str) : Prop := 1 ≤ z.length ∧ z.length ≤ 8 ∧ ∀ c ∈ z.cps.toList, 97 ≤ c ∧ c ≤ 122
def abc : List Nat := [97, 98, 99, 100, 101, 102, 103, 104, 105, 106, 107, 108, 109, 110, 111, 112, 113, 114, 115, 116, 117, 118, 119, 120, 121, 122]
def sign (c : Nat) : Str := ⟨#[c]⟩
abbrev letters : Str := "abcdefghijklmnopqrstuvwxyz"
theorem letters_eq : letters = ⟨abc.toArray⟩ := by decide +kernel
theorem abc_le {c : Nat} (h : c ∈ abc) : 97 ≤ c ∧ c ≤ 122 := by
  have h2 : ∀ c ∈ abc, 97 ≤ c ∧ c ≤ 122 := by decide
  exact h2 c h
theorem tl_sign (c : Nat) : (sign c).cps.toList = [c] := rfl
theorem joinL_flat : ∀ l : List (List Nat), TL.joinL [] l = l.flatten
  | [] => rfl
  | [p] => by simp [TL.joinL]
  | p :: q :: r => by
    show p ++ ([] ++ TL.joinL [] (q :: r)) = _
    rw [joinL_flat (q :: r)]
    simp
theorem join_signs (e : Str) (he : e.cps = #[]) (cs : List Nat) : (Txt.join e (cs.map sign)).cps.toList = cs := by
  rw [TL.join_eq]
  have h : (Str.join e (cs.map sign)).cps.toList = TL.joinL e.cps.toList ((cs.map sign).map fun z => z.cps.toList) := TL.tl_join e (cs.map sign)
  rw [h, he]
  show TL.joinL [] _ = _
  rw [joinL_flat, List.map_map]
  clear h
  induction cs with
  | nil => rfl
  | cons c r ih =>
    rw [List.map_cons, List.flatten_cons, ih]
    rfl
theorem nodup_le : ∀ {l ts : List Str}, l.Nodup → (∀ x ∈ l, x ∈ ts) → l.length ≤ ts.length
  | [], _, _, _ => Nat.zero_le _
  | x :: l, ts, hn, hs => by
    have hx : x ∈ ts := hs x List.mem_cons_self
    have hn2 := List.nodup_cons.mp hn
    have ih := nodup_le (l := l) (ts := ts.erase x) hn2.2 fun y hy => by
      have ne : y ≠ x := fun e => hn2.1 (e ▸ hy)
      exact (List.mem_erase_of_ne ne).mpr (hs y (List.mem_cons_of_mem _ hy))
    rw [List.length_erase_of_mem hx] at ih
    have pos : 0 < ts.length := List.length_pos_of_mem hx
    simp only [List.length_cons]
    omega
def cand (w : Str) (c : Nat) : Str := cutS (sign c ++ w) none (some 8)
theorem tl_app (a b : Str) : (a ++ b).cps.toList = a.cps.toList ++ b.cps.toList := by
  rw [PySem.Str.cps_append, Array.toList_append]
theorem len_tl (a : Str) : a.length = a.cps.toList.length := by simp [Str.length]
theorem cand_tl (w : Str) (c : Nat) : (cand w c).cps.toList = (c :: w.cps.toList).take 8 := by
  unfold cand cutS
  have e : (sign c ++ w).cps.toList = c :: w.cps.toList := tl_app _ _
  have l : (sign c ++ w).length = w.cps.toList.length + 1 := by rw [len_tl, e]; rfl
  rw [e, l]
  have h8 : HT.sIx (w.cps.toList.length + 1) (w.cps.toList.length + 1) (some 8) = min 8 (w.cps.toList.length + 1) := HT.sIx_nat _ _ 8
  rw [h8]
  show (List.take (min 8 (w.cps.toList.length + 1) - 0) (List.drop 0 (c :: w.cps.toList))) = _
  rw [Nat.sub_zero, List.drop_zero]
  have : (c :: w.cps.toList).length = w.cps.toList.length + 1 := rfl
  rw [← this, ← List.take_eq_take_min]
theorem cand_word {w : Str} {c : Nat} (h : IsWord w) (hc : c ∈ abc) : IsWord (cand w c) := by
  have e := cand_tl w c
  obtain ⟨h1, h2, h3⟩ := h
  rw [len_tl] at h1 h2
  refine ⟨?_, ?_, fun d hd => ?_⟩
  · rw [len_tl, e]; simp
  · rw [len_tl, e]; simp; omega
  · rw [e] at hd
    rcases List.mem_cons.mp (List.mem_of_mem_take hd) with q | q
    · rw [q]; exact abc_le hc
    · exact h3 d q
theorem cand_inj {w : Str} {c d : Nat} (h : cand w c = cand w d) : c = d := by
  have e : (cand w c).cps.toList = (cand w d).cps.toList := by rw [h]
  rw [cand_tl, cand_tl] at e
  simpa using e
theorem free_some (w : Str) (ts : List Str) (h : ts.length ≤ 25) : abc.filter (fun c => !decide (cand w c ∈ ts)) ≠ [] := by
  intro e
  have ha : ∀ c ∈ abc, cand w c ∈ ts := fun c hc => by
    have := List.filter_eq_nil_iff.mp e c hc
    simpa using this
  have nd : (abc.map (cand w)).Nodup := by
    have h0 : abc.Nodup := by decide
    exact List.Pairwise.map _ (fun a b ne q => ne (cand_inj q)) h0
  have l := nodup_le nd (ts := ts) (fun x hx => by
    obtain ⟨c, hc, rfl⟩ := List.mem_map.mp hx
    exact ha c hc)
  rw [List.length_map] at l
  have : abc.length = 26 := rfl
  omega
theorem inV_str (w : Str) (ts : List Str) : inV (.str w) (ts.map V.str) = decide (w ∈ ts) := by
  unfold inV
  rw [List.any_map]
  apply Bool.eq_iff_iff.mpr
  simp only [List.any_eq_true, Function.comp, decide_eq_true_eq]
  constructor
  · rintro ⟨y, hy, e⟩
    have e2 : (y == w) = true := e
    exact (eq_of_beq e2) ▸ hy
  · intro h
    exact ⟨w, h, beq_self_eq_true w⟩
theorem flat_strs (ts : List Str) : (ts.map V.str).all flatV = true := by
  rw [List.all_map]
  exact List.all_eq_true.mpr fun _ _ => rfl
abbrev nWord : List Str := ["source", "taken", "letters", "word", "free", "turn", "letter"]
def spWord (K : PySem.W.Frag) : Sp := fun vs H Q _ => ∃ (a b : Addr) (n : Nat) (ts : List Str), vs = [.ref a, .ref b] ∧ Src H a n ∧ n ≤ 900000000 ∧ b ≠ a ∧ SqL K H b (ts.map V.str) ∧ ts.length ≤ 25 ∧
  ∀ H' w, Keep a H H' → Src H' a (n + 10) → IsWord w → w ∉ ts → Q (.str w) H'
section
variable {P : Program} {w : World} {K : PySem.W.Frag} {mg : Str → Option Value} {base : Heap}
theorem str_notmem {z : Str} {ts : List Str} {A B : Prop} (h1 : z ∉ ts → A) (h2 : z ∈ ts → B) : if (if true = true then !inV (.str z) (ts.map V.str) else inV (.str z) (ts.map V.str)) = true then A else B := by
  rw [if_pos rfl, inV_str]
  by_cases h : z ∈ ts
  · rw [decide_eq_true h, Bool.not_true, if_neg Bool.false_ne_true]; exact h2 h
  · rw [decide_eq_false h, Bool.not_false, if_pos rfl]; exact h1 h
theorem letters_cps : letters.cps = abc.toArray := by rw [letters_eq]
theorem abc_at {i : Int} (h0 : 0 ≤ i) (h1 : i < 26) : ∃ c, atI letters.cps.toList i = some c ∧ c ∈ abc := by
  rw [letters_cps]
  exact atI_get (xs := abc) h0 (by show i < 26; exact h1)
end
/-! isinstance of a caught error that has its own dict -/
def rIsED (K : PySem.W.Frag) (cls : Value) (d : Option Addr) (a : Addr) : List V → Hp → VK → Prop := fun xs H Q =>
  ∃ (D dd : Addr) (c : V) (cv : Value) (b : Bool) (fs : List (Str × V)), cls = .ref D ∧ d = some dd ∧ ExcC K D ∧ xs = [.ref a, c] ∧ (∀ u, RelV c u → u = cv) ∧ H dd = some (.xd fs) ∧ PySem.W.kitOne K (.ref D) cv = some b ∧ Q (.bl b) H
theorem call_isED {X : Cx} {a : Addr} {cls : Value} {d : Option Addr} {oe : Obj} {pn : List (Addr × Obj)} (hz : Zc cls d oe) (hf : ∃ vs, oe.data = .fields vs) :
    CallR (X.suite a ((a, oe) :: pn)) (.builtin "isinstance") (rIsED X.K cls d a) := by
  intro pins s σ H xs us Q I r h
  obtain ⟨D, dd, c, cv, b, fs, rfl, rfl, C, rfl, hcv, hdd, e, q⟩ := h
  obtain ⟨u1, u2, rfl, r1, r2⟩ := vals2 r
  obtain rfl : u1 = Value.ref a := r1
  obtain rfl := hcv _ r2
  have hp := (I.pin (a, oe) (List.mem_append_left _ List.mem_cons_self)).1
  obtain ⟨mA, hns, _⟩ := (show ObjOk X.prog X.w H s.heap dd (.xd fs) from I.hok dd _ hdd)
  obtain ⟨od, ho, _⟩ := lookIn_ns hns
  obtain ⟨vs, hv⟩ := hf
  have J : PySem.W.InstAt s.heap a oe D (some od) := ⟨hp, hz.1, by unfold PySem.W.notCls; rw [hv] <;> rfl, by rw [hz.2]; exact ho⟩
  have hc : (PySem.W.clsIn X.K D).isSome = true := by
    have z := C.hd
    unfold PySem.W.hasDictIn at z
    cases q : PySem.W.clsIn X.K D with
    | none => rw [q] at z; cases z
    | some y => rfl
  exact PySem.W.kia_one (PySem.W.kitx_exc hc C.hg C.hk C.hs C.ha C.hn C.ht C.hm) I.kIn J e (fun z => nomatch z) fun tk => ⟨.bl b, H, I.tok tk, rfl, q⟩
/-! f(k = v, ..), nothing by position, what it raises wished for at the caller's slots -/
def tCallKS (m : Nat) (sp : Sp) (gV : List V → List V → List V) (E : L2.St → XK) (tk : TA) : TE := fun σ H Q => tk σ H fun zs H2 => zs.length = m ∧ sp (gV [] zs) H2 Q (E σ)
section
variable {X : Cx} {CX : CXT} {k : Nat} {f : Addr} {fd : FuncData} {ps ks : List Str} {sp : Sp} {E : L2.St → XK} {x : Str} {p pos : Pos} {kws : List Keyword} {tk : TA} {g : List Value → List Value → List Value} {gV : List V → List V → List V}
theorem pe_callKS (F : FnOk X.prog X.w X.K X.mg X.base CX k f fd ps sp) (hr : Room k X.A) (hm : X.mg x = some (.ref f)) (hk : PySem.W.keepIn X.K (.ref f) = true) (hb : KBn X.K fd ps 0 ks g gV) (hx : ∀ σ, PassesAt CX X σ (E σ)) (hkw : PK X kws tk)
    (hg : Gl X x := by rfl) (hall : (backToKw pos (keywordEach kws X.env)).all (·.1.isSome) = true := by rfl) (hks : (backToKw pos (keywordEach kws X.env)).filterMap (·.1) = ks := by rfl) (hdb : (x == ("__debug__" : Str)) = false := by decide)
    (hpl : ((backTo pos (starEach [] X.env)).any (·.1) || (backToKw pos (keywordEach kws X.env)).any (·.1.isNone)) = false := by rfl) :
    PE X (.Call (.Name x p) [] kws pos) (tCallKS ks.length sp gV E tk) := by
  refine ⟨fun pins s σ H Q I h => wpAny_Call_Name_kw (ld_glob I hg hm ?_ hdb)⟩
  refine PySem.W.callWith_KW0 (h₀ := X.base) I.ok.mod.kin hk hall (thn (hkw.run pos pins s σ H _ I h) fun ws s2 ⟨zs, H2, I2, rz, l2, q2⟩ => ⟨I2.kIn, ?_⟩) hpl
  rw [hks]
  have r2 := hb.rel .nil rz
  have bt := hb.to s2 [] ws I2.kIn rfl (rz.length.symm.trans l2)
  refine wpAny_call (codeAny_mono (F.run X.A X.stack s2 H2 ⟨[], ks.zip ws⟩ (g [] ws) (gV [] zs) Q (E σ) hr I2.env0 bt r2 q2) fun r s' hq => ?_)
  match r, hq with
  | .error e, hq => exact hx σ pins H2 s2 e s' I2 hq
  | .ok (.ret u), hq => exact I2.after hq
  | .ok .next, hq => exact hq.elim
  | .ok .brk, hq => exact hq.elim
  | .ok .cont, hq => exact hq.elim
end
structure TxtP (mg : Str → Option Value) : Prop where
  isi : mg "isinstance" = none
  int : mg "int" = none
  bool : mg "bool" = none
  str : mg "str" = none
  list : mg "list" = none
  tuple : mg "tuple" = none
  dict : mg "dict" = none
  len : mg "len" = none
  all : mg "all" = none
  longest : ∃ t, mg "LONGEST_WORD" = some (.int 8 t)
/-- a value of a built-in type t -/
def IsTy (K : PySem.W.Frag) (H : Hp) (v : V) (t : String) : Prop := TyX K H v (.type t)
def NotTy (K : PySem.W.Frag) (H : Hp) (v : V) (c : String) : Prop := ∃ t, TyX K H v (.type t) ∧ kitB t c = some false
def isWordB (z : Str) : Bool := decide (1 ≤ z.length) && (decide (z.length ≤ 8) && z.cps.toList.all fun c => decide (97 ≤ c) && decide (c ≤ 122))
theorem isWordB_iff (z : Str) : isWordB z = true ↔ IsWord z := by
  unfold isWordB IsWord
  simp only [Bool.and_eq_true, decide_eq_true_eq, List.all_eq_true]
theorem isWordB_true {z : Str} (h : IsWord z) : isWordB z = true := (isWordB_iff z).mpr h
theorem isWordB_false {z : Str} (h : ¬ IsWord z) : isWordB z = false := by
  cases e : isWordB z with
  | false => rfl
  | true => exact absurd ((isWordB_iff z).mp e) h
def spIsInteger (K : PySem.W.Frag) : Sp := fun vs H Q _ => ∃ (v : V) (b : Bool), vs = [v] ∧
  ((b = true ∧ ∃ i, v = .int i) ∨ (b = false ∧ ((∃ c, v = .bl c) ∨ NotTy K H v "int"))) ∧ Q (.bl b) H
def spIsWord (K : PySem.W.Frag) : Sp := fun vs H Q _ => ∃ (v : V) (b : Bool), vs = [v] ∧
  ((∃ z, v = .str z ∧ z.length ≤ 1000 ∧ b = isWordB z) ∨ (b = false ∧ NotTy K H v "str")) ∧ ∀ H', Same H H' → Q (.bl b) H'
def spCopied (K : PySem.W.Frag) : Sp := fun vs H Q _ => ∃ (v : V), vs = [v] ∧ NotTy K H v "list" ∧ NotTy K H v "tuple" ∧ NotTy K H v "dict" ∧ Q v H
section
variable {P : Program} {w : World} {K : PySem.W.Frag} {mg : Str → Option Value} {base : Heap}
theorem ty_int {H : Hp} (i : Int) : TyX K H (.int i) (.type "int") := .base (.int i)
theorem ty_bl {H : Hp} (i : Bool) : TyX K H (.bl i) (.type "bool") := .base (.bl i)
theorem ty_str {H : Hp} (i : Str) : TyX K H (.str i) (.type "str") := .base (.str i)
theorem ty_non {H : Hp} : TyX K H .non (.type "NoneType") := .base .non
theorem lt_sign (c d : Nat) : decide (([c] : List Nat) < [d]) = decide (c < d) := by
  have : (([c] : List Nat) < [d]) ↔ c < d := by
    rw [List.cons_lt_cons_iff]
    simp
  simp only [this]
end
theorem exc_end {H : Hp} {a C d : Addr} {fs : List (Str × V)} (na : H a = none) (nd : upd H a (exo a C none) d = none) (da : d ≠ a) :
    H d = none ∧ Same H (upd (del (upd (upd (upd H a (exo a C none)) d (exd d fs)) a (exo a C (some d))) a) d (.xd fs)) := by
  have n2 : H d = none := by rw [upd_ne da] at nd; exact nd
  refine ⟨n2, fun b o h => ?_⟩
  rw [upd_ne (ne_of_none h n2), del_ne (ne_of_none h na), upd_ne (ne_of_none h na), upd_ne (ne_of_none h n2), upd_ne (ne_of_none h na)]
  exact h
theorem Same.new {H H1 : Hp} {p : Addr} {o : HO} (s : Same H H1) (h : H1 p = none) : Same H (upd H1 p o) := fun b u e => by
  rw [upd_ne (ne_of_none (s b u e) h)]
  exact s b u e
section
variable {P : Program} {w : World} {K : PySem.W.Frag} {mg : Str → Option Value} {base : Heap}
theorem nt_str {H : Hp} (z : Str) : NotTy K H (.str z) "list" ∧ NotTy K H (.str z) "tuple" ∧ NotTy K H (.str z) "dict" :=
  ⟨⟨_, ty_str z, by decide +kernel⟩, ⟨_, ty_str z, by decide +kernel⟩, ⟨_, ty_str z, by decide +kernel⟩⟩
theorem NotTy.same {H H1 : Hp} {v : V} {c : String} (s : Same H H1) (h : NotTy K H v c) : NotTy K H1 v c := by
  obtain ⟨t, ht, k⟩ := h
  refine ⟨t, ?_, k⟩
  cases ht with
  | base b => cases b with
    | non => exact .base .non
    | bl y => exact .base (.bl y)
    | int i => exact .base (.int i)
    | str y => exact .base (.str y)
    | flt y => exact .base (.flt y)
    | lst e => exact .base (.lst (s _ _ e))
    | frz e => exact .base (.frz (s _ _ e))
    | tup e => exact .base (.tup (s _ _ e))
    | dK e => exact .base (.dK (s _ _ e))
    | dT e => exact .base (.dT (s _ _ e))
  | byt b => exact .byt b
  | set e => exact .set (s _ _ e)
  | kList e c => exact .kList e c
  | kTuple e c => exact .kTuple e c
  | kDict e c => exact .kDict e c
  | fTuple e => exact .fTuple (s _ _ e)
  | fDict e => exact .fDict (s _ _ e)
theorem not_nt_str {H : Hp} {z : Str} (h : NotTy K H (.str z) "str") : False := by
  obtain ⟨t, ht, k⟩ := h
  generalize hv : V.str z = v at ht
  generalize hu : Value.type t = u at ht
  cases ht with
  | base b =>
    cases b with
    | str y =>
      cases hu
      exact absurd k (by decide +kernel)
    | _ => cases hv
  | _ => cases hv
end
def oddStrs : List Str := ["", "abcdefghi", "A", "aB", "a1", "a b", " a", "a_", "-"]
inductive Odd (a : Addr) (H : Hp) : V → Prop where
  | str {z : Str} (h : z ∈ oddStrs) : Odd a H (.str z)
  | non : Odd a H .non
  | int (i : Int) : Odd a H (.int i)
  | bl (b : Bool) : Odd a H (.bl b)
  | tup {p : Addr} {xs : List V} (n : p ≠ a) (h : H p = some (.tup xs)) (e : xs = [] ∨ xs = [.str "a"]) : Odd a H (.ref p)
  | lst {p : Addr} {xs : List V} (n : p ≠ a) (h : H p = some (.lst xs)) (e : xs = [] ∨ xs = [.str "a"]) : Odd a H (.ref p)
  | dic {p : Addr} (n : p ≠ a) (h : H p = some (.dK [(.inr "a", .str "b")])) : Odd a H (.ref p)
theorem Odd.keep {a : Addr} {H H' : Hp} {v : V} (k : Keep a H H') (h : Odd a H v) : Odd a H' v := by
  cases h with
  | str h => exact .str h
  | non => exact .non
  | int i => exact .int i
  | bl b => exact .bl b
  | tup n h e => exact .tup n (k _ _ n h) e
  | lst n h e => exact .lst n (k _ _ n h) e
  | dic n h => exact .dic n (k _ _ n h)
theorem odd_notword {K : PySem.W.Frag} {a : Addr} {H : Hp} {v : V} (h : Odd a H v) : (∃ z, v = .str z ∧ z.length ≤ 1000 ∧ ¬ IsWord z) ∨ NotTy K H v "str" := by
  cases h with
  | @str z h =>
    have e : ∀ z ∈ oddStrs, (decide (z.length ≤ 1000) && !isWordB z) = true := by decide +kernel
    have e2 := e z h
    simp only [Bool.and_eq_true, decide_eq_true_eq, Bool.not_eq_true'] at e2
    exact .inl ⟨z, rfl, e2.1, fun hw => by rw [isWordB_true hw] at e2; cases e2.2⟩
  | non => exact .inr ⟨_, ty_non, by decide +kernel⟩
  | int i => exact .inr ⟨_, ty_int i, by decide +kernel⟩
  | bl b => exact .inr ⟨_, ty_bl b, by decide +kernel⟩
  | tup n h e => exact .inr ⟨_, .base (.tup h), by decide +kernel⟩
  | lst n h e => exact .inr ⟨_, .base (.lst h), by decide +kernel⟩
  | dic n h => exact .inr ⟨_, .base (.dK h), by decide +kernel⟩
theorem same_new2 {H : Hp} {p : Addr} {o u : HO} (n : H p = none) : Same H (upd (upd H p o) p u) := fun b x h => by
  rw [upd_ne (ne_of_none h n), upd_ne (ne_of_none h n)]
  exact h
def spOdd : Sp := fun vs H Q _ => ∃ (a : Addr) (n : Nat), vs = [.ref a] ∧ Src H a n ∧ n ≤ 900000000 ∧ ∀ H' v, Keep a H H' → Src H' a (n + 1) → Odd a H' v → Q v H'
theorem Src.same {H H1 : Hp} {a : Addr} {n : Nat} (s : Same H H1) (h : Src H a n) : Src H1 a n := by
  obtain ⟨d, x, t, h1, h2⟩ := h
  exact ⟨d, x, t, s _ _ h1, h2⟩
section
variable {P : Program} {w : World} {K : PySem.W.Frag} {mg : Str → Option Value} {base : Heap}
end
theorem kb_of {K : PySem.W.Frag} {x qual : Str} {params : Arguments} {body : List Stmt} {scope : Scope} {kws : List (Str × V)} {f : Addr} {fd : FuncData} {ps : List Str} (F : FunD K x qual params body scope [] kws f fd)
    (h : ∀ (kV doc pm : Value) (an : Option Addr) (cdv ct : Value) (ws : List Value), ws.length = ps.length → bindArgs (PySem.W.fnOf x qual params body scope .none kV doc pm an cdv ct) ⟨[], ps.zip ws⟩ = pure (ps.zip ws)) : KBn K fd ps 0 ps (fun _ ws => ws) (fun _ zs => zs) := by
  obtain ⟨oc, od, dV, kV, doc, pm, an, cdv, ct, osl, rfl, lk, hcd, hD, hK⟩ := F.ex
  rcases hD with ⟨_, rfl⟩ | ⟨e, _⟩
  · exact ⟨fun s us ws _ l1 l2 => by
      obtain rfl : us = [] := List.length_eq_zero_iff.mp l1
      exact .of_eq (h kV doc pm an cdv ct ws l2), fun _ r => r⟩
  · exact absurd rfl e
end Lw
namespace Hk
open PySem PySem.Spec PyProof.Rows L2
/-! a Hook: facts, defs, tables, one Bool more -/
abbrev Al : Type := He.AlT × Bool
def obG (n : Nat) (fa : List He.Fa) (fn : List He.DefD) (ts : List He.Tab) (own : PySem.W.Frag → Bool) (g : Addr → Option Obj) : Al := (He.obsTG n fa fn ts g, own (He.frG g (He.asD g n)))
def Says (fa : List He.Fa) (fn : List He.DefD) (ts : List He.Tab) (own : PySem.W.Frag → Bool) (w : World) (K : PySem.W.Frag) : Prop := He.SaysT fa fn ts w K ∧ own K = true
def hook (n : Nat) (fa : List He.Fa) (fn : List He.DefD) (ts : List He.Tab) (own : PySem.W.Frag → Bool) : PySem.W.Hook where
  α := Al
  obs := fun s => obG n fa fn ts own s.heap.get?
  val := fun w => (He.valT fn ts w, true)
  says := fun w h => ∃ K : PySem.W.Frag, K.In h ∧ Says fa fn ts own w K
  of := fun _ _ e => ⟨_, He.frG_in, congrArg Prod.fst e, congrArg Prod.snd e⟩
  keeps := fun _ _ _ ⟨K, hK, c⟩ k => ⟨K, PySem.W.Frag.In.keeps hK k, c⟩
theorem obG_eq {n : Nat} {fa : List He.Fa} {fn : List He.DefD} {ts : List He.Tab} {own : PySem.W.Frag → Bool} {g : Addr → Option Obj} {s : Shared} (h : ∀ a, g a = s.heap.get? a) : obG n fa fn ts own g = (hook n fa fn ts own).obs s := by
  rw [show g = s.heap.get? from funext h] <;> rfl
/-- an own error class over ValueError with an own __init__ -/
def oexB (K : PySem.W.Frag) (C : Addr) : Bool := match K.lookup C with
  | some ⟨.type t, _, .cls ⟨_, _, .ref c :: bm, _, _, true, _, _, _, _, false⟩, sl⟩ => (decide (t = "type") && (decide (c = C) && PySem.HandSPX.refsVE bm)) && (match sl.toList with
    | [_, _, _, _, some (.builtin z), _] => decide (z = "ValueError.__new__")
    | _ => false)
  | _ => false
def clsB (K : PySem.W.Frag) (C : Addr) : Bool := oexB K C && (He.eqO (PySem.W.findIn K (.ref C) "__setattr__") (some (some (.builtin "object.__setattr__"))) && (decide (PySem.W.subIn K (.ref C) (.type "BaseException") = some true) &&
  (decide (PySem.W.typeIn K (.ref C) = some (.type "type")) && PySem.W.keepIn K (.ref C))))
theorem oexB_ok {K : PySem.W.Frag} {C : Addr} (h : clsB K C = true) : OexC K C := by
  obtain ⟨h1, h⟩ := He.ba h
  obtain ⟨h2, h⟩ := He.ba h
  obtain ⟨h3, h⟩ := He.ba h
  obtain ⟨h4, h5⟩ := He.ba h
  refine ⟨?_, He.eqO_ok h2, of_decide_eq_true h3, of_decide_eq_true h4, h5⟩
  unfold oexB at h1
  split at h1
  · rename_i t dd nm bs c bm N qn sn sub ab col sl e
    obtain ⟨q1, q2⟩ := He.ba h1
    obtain ⟨q3, q4⟩ := He.ba q1
    obtain ⟨q5, q6⟩ := He.ba q4
    have e1 := of_decide_eq_true q3
    have e2 := of_decide_eq_true q5
    subst e1 e2
    split at q2
    · rename_i k0 k1 k2 k3 z k5 es
      have e3 := of_decide_eq_true q2
      subst e3
      obtain ⟨sl⟩ := sl
      simp only at es
      subst es
      exact ⟨nm, qn, N, bs, bm, sn, sub, ab, col, dd, k0, k1, k2, k3, k5, e, q6⟩
    · cases q2
  · cases h1
/-- isinstance asks its instances rightly -/
def excB (K : PySem.W.Frag) (D : Addr) : Bool := L2.xfB K D && (He.eqO (PySem.W.findIn K (.ref D) "__class__") (some (some (.builtin "object.__class__"))) && (decide (PySem.W.mroIn K D (.type "object") = some true) && getB K))
where getB (K : PySem.W.Frag) : Bool := decide (PySem.W.specialIn K (.builtin "object.__class__") "__get__" = some (some (.builtin "getset_descriptor.__get__"))) && decide (PySem.W.takesIn K (.builtin "object.__class__") = some true)
theorem excB_ok {K : PySem.W.Frag} {D : Addr} (h : excB K D = true) : ExcC K D ∧ XfC K D := by
  obtain ⟨h1, h⟩ := He.ba h
  obtain ⟨h2, h⟩ := He.ba h
  obtain ⟨h3, h⟩ := He.ba h
  obtain ⟨h4, h5⟩ := He.ba h
  have x := L2.xfB_ok h1
  exact ⟨⟨x.ga, x.gg, x.exC, x.hdC, He.eqO_ok h2, of_decide_eq_true h4, of_decide_eq_true h5, of_decide_eq_true h3⟩, x⟩
/-- isinstance of an own class's instances -/
def insB (K : PySem.W.Frag) (D : Addr) : Bool := He.eqO (PySem.W.findIn K (.ref D) "__class__") (some (some (.builtin "object.__class__"))) && (decide (PySem.W.mroIn K D (.type "object") = some true) && excB.getB K)
end Hk

set_option Elab.async false
set_option linter.all false
set_option maxRecDepth 100000
set_option maxHeartbeats 4000000
namespace Lw
open PySem PySem.Spec PyProof.Rows L2
/-! an own error with an own __init__, made: its context is None -/
section
variable {X : Cx} {CX : CXT} {x : Str} {e : Expr} {es : List Expr} {ta : TA} {p pos : Pos} {C fI : Addr} {k : Nat} {fd : FuncData} {ps : List Str} {sp : Sp} {ds : List Value} {dvs : List V}
theorem pmk_oexN (T : OexC X.K C) (iC : PySem.W.findIn X.K (.ref C) "__init__" = some (some (.ref fI))) (tI : PySem.W.typeIn X.K (.ref fI) = some (.type "function")) (F1 : FnOk X.prog X.w X.K X.mg X.base CX k fI fd ps sp) (hr : Room (k + 1) X.A) (hb : Binds X.K fd ps ds)
    (hd : Vals dvs ds) (hx : Passes CX X (fun _ _ _ => False)) (hm : X.mg x = some (.ref C)) (ha : PA X (e :: es) ta) (hg : Gl X x := by rfl) (hdb : (x == ("__debug__" : Str)) = false := by decide) (he : starEach (e :: es) X.env = (false, eval e X.env) :: starEach es X.env := by rfl)
    (hpl : (backTo pos (starEach es X.env)).any (·.1) = false := by rfl) : L2N.PMk X (.Call (.Name x p) (e :: es) [] pos) (tMkO C sp dvs ta) := fun pins s σ H Q I h => by
  obtain ⟨nm, qn, N, bs, bm, sn, sub, ab, col, dd, k0, k1, k2, k3, k5, hC, hbm⟩ := T.cls
  refine wpAny_Call_Name_kw (ld_glob I hg hm (PySem.W.callWith_K (h₀ := X.base) I.ok.mod.kin T.kC (thn (ha.run pos pins s σ H _ I h) fun us st ⟨vs, H1, J, rv, hz, q1⟩ => ⟨J.kIn, ?_⟩) he hpl) hdb)
  show wpAny _ _ (call (.ref C) us) _ _ _
  obtain ⟨hp, g, dr, tk, os⟩ := st
  have up : hp.objs.size ≤ hp.objs.size + 1 := by omega
  have spec := q1 (hp.objs.size + 1) (J.hok.fresh up)
  have stay : ∀ b o, hp.get? b = some o → ((hp.push (PySem.W.kdv_tup us)).push (PySem.HandSPX.excO C hp.objs.size)).get? b = some o := fun b o z => Heap.get?_push_of_some _ (Heap.get?_push_of_some _ z)
  have there : ((hp.push (PySem.W.kdv_tup us)).push (PySem.HandSPX.excO C hp.objs.size)).get? (hp.objs.size + 1) = some (PySem.HandSPX.excO C hp.objs.size) := by heap_get
  have J2 := J.laid (t' := tk) (a := hp.objs.size + 1) (o := exo (hp.objs.size + 1) C none) (h' := (hp.push (PySem.W.kdv_tup us)).push (PySem.HandSPX.excO C hp.objs.size)) stay up (exo_ok there)
  have rel : Vals (V.ref (hp.objs.size + 1) :: (vs ++ dvs)) (Value.ref (hp.objs.size + 1) :: (us ++ ds)) := .cons rfl (rv.append hd)
  have len : (Value.ref (hp.objs.size + 1) :: us ++ ds).length = ps.length := (F1.len _ _ _ _ spec ▸ rel.length).symm
  have line : us.length ≤ sizeLine := by rw [← Paired.length rv, sizeLine_eq]; omega
  refine wpAny_call (PySem.HandSPX.call_own F.excBase_ValueError (fun Y => PySem.HandSPX.refsVE_contains Y bm hbm) (J.kIn _ _ hC) (PySem.W.looks_findIn J.kIn iC) (fun self => PySem.W.bind_fn J.kIn self tI) line
    (codeAny_mono (F1.run _ X.stack _ _ ⟨Value.ref (hp.objs.size + 1) :: us, []⟩ (Value.ref (hp.objs.size + 1) :: (us ++ ds)) _ _ (fun _ _ _ => False) (hr.make C us []) (J2.env0.make C us []) (hb _ (Value.ref (hp.objs.size + 1) :: us) J2.kIn len) rel spec) fun r s' back => ?_))
  match r, back with
  | .error er, back => exact hx pins σ _ _ er s' J2 back
  | .ok .next, back => exact back.elim
  | .ok .brk, back => exact back.elim
  | .ok .cont, back => exact back.elim
  | .ok (.ret u), back =>
    obtain ⟨v, H2, os2, bare2, un2, hok2, rv2, ev, d, fs, ea, ed, hd1, q2⟩ := back
    subst ev
    obtain ⟨h2, g2, d2, t2, os'⟩ := s'
    obtain ⟨t0, G, JG, kG, ge, hoe, na⟩ := mk_end0 (d2 := d2) (t2 := t2) J up stay un2 hok2 os2 bare2 ea ed hd1
    exact ⟨rv2, _, _, _, ⟨G, g2, d2, t2, os'⟩, _, .ref C, some d, rfl, JG, kG, ge, hoe, ⟨rfl, rfl, fun z ez => by cases ez; rfl⟩, rfl, rfl, na, rfl, bare2, raises_own T.exC T.tyC, q2⟩
/-! C(e, ..), C what a local name holds -/
def tMakeL (i : Nat) (C : Addr) (sp : Sp) (E : XK) (t : TA) : TE := fun σ H Q => σ[i]? = some (some (.ref C)) ∧ tMake C sp [] E t σ H Q
theorem pe_makeL {E : XK} {t : TA} {i f : Nat} (M : Mk X.K C f) (F : FnOk X.prog X.w X.K X.mg X.base CX k f fd ps sp) (hr : Room (k + 1) X.A) (hN : X.N[i]? = some x) (hv : Vis X.env.scope x) (hb : Binds X.K fd ps []) (hx : Passes CX X E) (ha : PA X (e :: es) t)
    (hdb : (x == ("__debug__" : Str)) = false := by decide) (hcd : (x == ("__classdict__" : Str)) = false := by decide) (he : starEach (e :: es) X.env = (false, eval e X.env) :: starEach es X.env := by rfl) (hpl : (backTo pos (starEach es X.env)).any (·.1) = false := by rfl) :
    PE X (.Call (.Name x p) (e :: es) [] pos) (tMakeL i C sp E t) := ⟨fun pins s σ H Q I ⟨hs, ht⟩ => by
  refine wpAny_Call_Name_kw (thn ((pe_var (pos := p) hN hv hdb hcd).run pins s σ H (fun v H1 => v = .ref C ∧ H1 = H) I ⟨.ref C, hs, rfl, rfl⟩) fun u s1 ⟨v, H1, J, r1, e1, e2⟩ => ?_)
  subst e1 e2
  obtain rfl : u = Value.ref C := r1
  exact PySem.W.callWith_K (h₀ := X.base) J.ok.mod.kin M.kp (thn (ha.run pos pins s1 σ H1 _ J ht) fun us s2 ⟨vs, H2, J2, r, q⟩ => ⟨J2.kIn, run_make M F hr hb .nil hx J2 r q⟩) he hpl⟩
/-! what a try's body lets out, whatever its slots are -/
def WL (X : Cx) (W : WX) : XK := fun cls d H => ∀ σ : L2.St, σ.length = X.N.length → W cls d σ H
theorem passL {W : WX} (tk : L2N.Takes X W) : Passes (L2N.CX X.prog X.w) X (WL X W) := fun pins σ H s u s' I c => by
  obtain ⟨a, B, H', cls, d, hu, fl, hok, ub, na, os, ag, hE⟩ := c
  exact tk u s' (L2N.XE.of_call (W := W) (E := fun c d H => W c d σ H) I (fun _ _ _ z => z) ⟨a, B, H', cls, d, hu, fl, hok, ub, na, os, ag, hE σ I.len⟩)
end
/-! a def called while an error is handled -/
theorem okH {CX : CXT} {P : Program} {w : World} {K : PySem.W.Frag} {mg : Str → Option Value} {base : Heap} {k : Nat} {x qual : Str} {params : Arguments} {bd : List Stmt} {scope : Scope} {dvs : List V} {kws : List (Str × V)} {f : Addr} {fd : FuncData} {N ps : List Str} {sp : Sp}
    (F : FunD K x qual params bd scope dvs kws f fd) (S : FnScope N ps scope) (len : ∀ vs H Q E, sp vs H Q E → vs.length = ps.length)
    (hb : ∀ (cdv : Value) (A : Around) (outer : List Env) (s : Shared) (H : Hp) (vs : List V) (Q : VK) (E : XK) (p : Addr × Obj), L2H.Hot1 A p → L2H.RoomH k (A.deeper (envOfC qual scope s.heap.objs.size f cdv)) → sp vs H Q E →
      ∃ t, PSs (L2H.cxH CX P w K mg base N qual scope f cdv A outer s H E p) bd t ∧ t { nx := fun _ H' => Q .non H', rt := Q } (start N vs) H) : L2H.FnH P w K mg base CX (k + 1) f fd ps sp := by
  obtain ⟨oc, od, dV, kV, doc, pm, an, cdv, ct, osl, rfl, lk, hcd, _, _⟩ := F.ex
  exact L2H.fn_ofH lk hcd S len fun A outer s H vs Q E p h1 h2 h3 => hb cdv A outer s H vs Q E p h1 h2 h3
end Lw

set_option Elab.async false
set_option linter.all false
set_option maxRecDepth 100000
set_option maxHeartbeats 4000000
namespace Lw
open PySem PySem.Spec PyProof.Rows L2
/-! the draws of the later laws: also out of very many -/
def spDrawW : Sp := fun vs H Q _ => ∃ (a : Addr) (n : Nat) (m : Int), vs = [.ref a, .int m] ∧ Src H a n ∧ n ≤ 1000000000 ∧ 0 < m ∧ m.natAbs < 2 ^ 200 ∧
  ∀ H' i, Keep a H H' → Src H' a (n + 1) → 0 ≤ i → i < m → Q (.int i) H'
theorem small_m {m : Int} (h : -1000000000000000000000 < m ∧ m < 1000000000000000000000) : m.natAbs < 2 ^ 200 := by omega
/-! a tuple that the module holds -/
def tupB (K : PySem.W.Frag) (a : Addr) (xs : List V) : Bool := match K.lookup a with
  | some ⟨.type t, _, .seq its _, _⟩ => decide (t = "tuple") && (decide (its.size ≤ 1000) && decide (its.toList.map absV = xs.map some))
  | _ => false
theorem rel_of_abs {x : V} {u : Value} (h : absV u = some x) : RelV x u := by
  unfold absV at h
  split at h <;> first | cases h | skip
  all_goals first | rfl | exact ⟨_, rfl⟩
theorem vals_of_abs : ∀ {us : List Value} {xs : List V}, us.map absV = xs.map some → Vals xs us
  | [], [], _ => .nil
  | u :: us, x :: xs, h => by
    simp only [List.map_cons, List.cons.injEq] at h
    exact .cons (rel_of_abs h.1) (vals_of_abs h.2)
  | [], _ :: _, h => by cases h
  | _ :: _, [], h => by cases h
theorem tupB_ok {K : PySem.W.Frag} {a : Addr} {xs : List V} {H : Hp} (h : tupB K a xs = true) : SqT K H a xs := by
  unfold tupB at h
  split at h
  · rename_i t d its n sl e
    obtain ⟨h1, h2⟩ := He.ba h
    obtain ⟨h3, h4⟩ := He.ba h2
    have e1 := of_decide_eq_true h1
    have e2 := of_decide_eq_true h3
    have hs : sizeLine = 16777216 := by decide
    subst e1
    exact .inr ⟨_, its, n, e, rfl, rfl, by omega, vals_of_abs (of_decide_eq_true h4)⟩
  · cases h
end Lw
namespace Lw
open PySem PySem.Spec PyProof.Rows L2
theorem it_bf {b : Bool} {A B : Prop} (h : b = false) (x : B) : if b = true then A else B := by
  rw [h, if_neg Bool.false_ne_true]; exact x
theorem it_bt {b : Bool} {A B : Prop} (h : b = true) (x : A) : if b = true then A else B := by
  rw [h, if_pos rfl]; exact x
theorem str_mem {z : Str} {ts : List Str} {A B : Prop} (h1 : z ∈ ts → A) (h2 : z ∉ ts → B) : if inV (.str z) (ts.map V.str) = true then A else B := by
  rw [inV_str]
  by_cases h : z ∈ ts
  · rw [decide_eq_true h, if_pos rfl]; exact h1 h
  · rw [decide_eq_false h, if_neg Bool.false_ne_true]; exact h2 h
theorem kb_rel {K : PySem.W.Frag} {x qual : Str} {params : Arguments} {body : List Stmt} {scope : Scope} {kws : List (Str × V)} {f : Addr} {fd : FuncData} {ps ks : List Str} {g : List Value → List Value} {gV : List V → List V} (F : FunD K x qual params body scope [] kws f fd) (hr : ∀ {zs us}, Vals zs us → Vals (gV zs) (g us))
    (h : ∀ (kV doc pm : Value) (an : Option Addr) (cdv ct : Value) (ws : List Value), ws.length = ks.length → bindArgs (PySem.W.fnOf x qual params body scope .none kV doc pm an cdv ct) ⟨[], ks.zip ws⟩ = pure (ps.zip (g ws))) : KBn K fd ps 0 ks (fun _ ws => g ws) (fun _ zs => gV zs) := by
  obtain ⟨oc, od, dV, kV, doc, pm, an, cdv, ct, osl, rfl, lk, hcd, hD, hK⟩ := F.ex
  rcases hD with ⟨_, rfl⟩ | ⟨e, _⟩
  · exact ⟨fun s us ws _ l1 l2 => by
      obtain rfl : us = [] := List.length_eq_zero_iff.mp l1
      exact .of_eq (h kV doc pm an cdv ct ws l2), fun _ r => hr r⟩
  · exact absurd rfl e
theorem pass0S {X : Cx} : ∀ σ : L2.St, PassesAt CX0 X σ ((fun _ => E0 : L2.St → XK) σ) := fun _ _ _ _ _ _ _ h => h.elim
theorem same_at {H G : Hp} {D : Addr} {o : HO} (n : H D = none) (s : Same H G) : Same H (upd G D o) := fun b u h => by
  rw [upd_ne (ne_of_none h n)]
  exact s b u h
theorem g_name {i : Nat} {v : V} {σ : L2.St} {H : Hp} {Q : L2.St → Hp → Prop} (h : Q (σ.set i (some v)) H) : gName i v σ H Q := h
theorem vals_rev : ∀ {vs : List V} {us : List Value}, Vals vs us → Vals vs.reverse us.reverse
  | _, _, .nil => .nil
  | _, _, .cons h r => by
    rw [List.reverse_cons, List.reverse_cons]
    exact Vals.append (vals_rev r) (.cons h .nil)
end Lw
namespace Lw
open PySem PySem.Spec PyProof.Rows L2
theorem cutV_ints (ns : List Int) (lo hi : Option Int) : ∃ ms : List Int, cutV (ns.map V.int) lo hi = ms.map V.int ∧ ms.length ≤ ns.length := by
  unfold cutV
  refine ⟨(ns.drop (HT.sIx (ns.map V.int).length 0 lo)).take (HT.sIx (ns.map V.int).length (ns.map V.int).length hi - HT.sIx (ns.map V.int).length 0 lo), ?_, ?_⟩
  · rw [List.map_take, List.map_drop]
  · rw [List.length_take, List.length_drop]; omega
theorem none_of_same {H G : Hp} (s : Same H G) {q : Addr} (h : G q = none) : H q = none := by
  cases e : H q with
  | none => rfl
  | some o => rw [s _ _ e] at h; cases h
theorem keep_at {a : Addr} {H G : Hp} {D : Addr} {o : HO} (n : H D = none) (s : Keep a H G) : Keep a H (upd G D o) := fun b u nb h => by
  rw [upd_ne (ne_of_none h n)]
  exact s b u nb h
/-! words, several and different -/
def cand1 (w : Str) (c : Nat) : Str := sign c ++ cutS w (some 1) none
def WInv (z : Str) (ts : List Str) (j : Nat) (y : Str) : Prop := IsWord y ∧ IsWord z ∧ y.cps.toList.drop 1 = z.cps.toList.drop 1 ∧ (y ∉ ts ∨ ∀ i c, i + 1 < j → abc[i]? = some c → cand1 z c ∈ ts) ∧ (y ∉ ts ∨ j = 0 ∨ ∃ c, abc[j - 1]? = some c ∧ y = cand1 z c)
theorem cand1_tl (w : Str) (c : Nat) : (cand1 w c).cps.toList = c :: w.cps.toList.drop 1 := by
  unfold cand1
  rw [tl_app, tl_sign]
  unfold cutS
  have h1 : HT.sIx w.length 0 (some 1) = min 1 w.length := HT.sIx_nat _ _ 1
  have h2 : HT.sIx w.length w.length none = w.length := rfl
  rw [h1, h2]
  have h3 : w.length = w.cps.toList.length := len_tl w
  show [c] ++ (List.take (w.length - min 1 w.length) (List.drop (min 1 w.length) w.cps.toList)) = _
  rw [h3]
  show c :: _ = _
  congr 1
  cases w.cps.toList with
  | nil => rfl
  | cons x r =>
    have e : min 1 (x :: r).length = 1 := by simp only [List.length_cons]; omega
    rw [e]
    simp
theorem WInv.word {z y : Str} {ts : List Str} {j : Nat} (h : WInv z ts j y) : IsWord y := h.1
theorem WInv.zero {z : Str} {ts : List Str} (h : IsWord z) : WInv z ts 0 z := ⟨h, h, rfl, .inr fun i c hi => absurd hi (by omega), .inr (.inl rfl)⟩
theorem WInv.stay {z y : Str} {ts : List Str} {j : Nat} (h : WInv z ts j y) (n : y ∉ ts) : WInv z ts (j + 1) y := ⟨h.1, h.2.1, h.2.2.1, .inl n, .inl n⟩
theorem cand1_inj {w : Str} {c d : Nat} (h : cand1 w c = cand1 w d) : c = d := by
  have e : (cand1 w c).cps.toList = (cand1 w d).cps.toList := by rw [h]
  rw [cand1_tl, cand1_tl] at e
  exact (List.cons.inj e).1
theorem cand1_eq {z y : Str} (e : y.cps.toList.drop 1 = z.cps.toList.drop 1) (c : Nat) : cand1 y c = cand1 z c := by
  have h : (cand1 y c).cps.toList = (cand1 z c).cps.toList := by rw [cand1_tl, cand1_tl, e]
  have h2 : (cand1 y c).cps = (cand1 z c).cps := Array.toList_inj.mp h
  cases h3 : cand1 y c
  cases h4 : cand1 z c
  rw [h3, h4] at h2
  cases h2
  rfl
theorem WInv.step {z y : Str} {ts : List Str} {j c : Nat} (h : WInv z ts j y) (hin : y ∈ ts) (hc : abc[j]? = some c) : WInv z ts (j + 1) (cand1 y c) := by
  obtain ⟨h1, h2, h3, h4, h5⟩ := h
  have t := cand1_tl y c
  refine ⟨?_, h2, by rw [t]; exact h3, .inr fun i d hi hd => ?_, .inr (.inr ⟨c, by simpa using hc, cand1_eq h3 c⟩)⟩
  · obtain ⟨w1, w2, w3⟩ := h1
    rw [len_tl] at w1 w2
    refine ⟨by rw [len_tl, t]; simp, ?_, fun x hx => ?_⟩
    · rw [len_tl, t, List.length_cons, List.length_drop]; omega
    · rw [t] at hx
      rcases List.mem_cons.mp hx with e | e
      · rw [e]; exact abc_le (List.mem_of_getElem? hc)
      · exact w3 x (List.mem_of_mem_drop e)
  · rcases Nat.lt_or_ge (i + 1) j with l | l
    · rcases h4 with h4 | h4
      · exact absurd hin h4
      · exact h4 i d l hd
    · have e : i = j - 1 := by omega
      rcases h5 with h5 | h5 | ⟨d2, e1, e2⟩
      · exact absurd hin h5
      · omega
      · rw [e] at hd
        rw [e1] at hd
        cases hd
        rw [← e2]
        exact hin
theorem WInv.done {z y : Str} {ts : List Str} (h : WInv z ts 26 y) (l : ts.length ≤ 24) : y ∉ ts := by
  obtain ⟨_, _, _, h4, _⟩ := h
  rcases h4 with h4 | h4
  · exact h4
  exfalso
  have hm : ∀ x ∈ (abc.take 25).map (cand1 z), x ∈ ts := fun x hx => by
    obtain ⟨c, hc, rfl⟩ := List.mem_map.mp hx
    obtain ⟨i, hi, e⟩ := List.mem_take_iff_getElem.mp hc
    refine h4 i c (by omega) ?_
    rw [← e]
    exact List.getElem?_eq_getElem _
  have nd : ((abc.take 25).map (cand1 z)).Nodup := by
    have h0 : (abc.take 25).Nodup := by decide
    exact List.Pairwise.map _ (fun a b ne q => ne (cand1_inj q)) h0
  have := nodup_le nd hm
  rw [List.length_map] at this
  have : (abc.take 25).length = 25 := rfl
  omega
def spWord2 (K : PySem.W.Frag) : Sp := fun vs H Q _ => ∃ (a b : Addr) (n : Nat) (ts : List Str), vs = [.ref a, .ref b] ∧ Src H a n ∧ n ≤ 900000000 ∧ b ≠ a ∧ SqL K H b (ts.map V.str) ∧ ts.length ≤ 24 ∧
  ∀ H' w, Keep a H H' → Src H' a (n + 10) → IsWord w → w ∉ ts → Q (.str w) H'
def GoodWs (ws ts : List Str) : Prop := ws.Nodup ∧ ∀ z ∈ ws, IsWord z ∧ z ∉ ts
theorem GoodWs.nil {ts : List Str} : GoodWs [] ts := ⟨List.nodup_nil, fun _ h => (List.not_mem_nil h).elim⟩
theorem GoodWs.snoc {ws ts : List Str} {z : Str} (h : GoodWs ws ts) (hz : IsWord z) (n : z ∉ ts ++ ws) : GoodWs (ws ++ [z]) ts := by
  have n1 : z ∉ ts := fun m => n (List.mem_append_left _ m)
  have n2 : z ∉ ws := fun m => n (List.mem_append_right _ m)
  refine ⟨List.nodup_append.mpr ⟨h.1, by simp, fun x hx y hy => ?_⟩, fun x hx => ?_⟩
  · rw [List.mem_singleton.mp hy]
    exact fun e => n2 (e ▸ hx)
  · rcases List.mem_append.mp hx with m | m
    · exact h.2 x m
    · rw [List.mem_singleton.mp m]; exact ⟨hz, n1⟩
def spWords (K : PySem.W.Frag) : Sp := fun vs H Q _ => ∃ (a b : Addr) (n : Nat) (m : Int) (ts : List Str), vs = [.ref a, .int m, .ref b] ∧ Src H a n ∧ n ≤ 800000000 ∧ b ≠ a ∧ H b = some (.lst (ts.map V.str)) ∧ ts.length ≤ 10 ∧ (0 ≤ m ∧ m ≤ 8) ∧
  ∀ l H' ws, H l = none → Keep a H H' → Src H' a (n + 80) → H' l = some (.lst (ws.map V.str)) → ws.length = m.toNat → GoodWs ws ts → Q (.ref l) H'
def spNumL : Sp := fun vs H Q _ => ∃ (a : Addr) (n : Nat) (m : Int), vs = [.ref a, .int m] ∧ Src H a n ∧ n ≤ 900000000 ∧ 0 < m ∧ m.natAbs < 2 ^ 198 ∧
  ∀ H' i, Keep a H H' → Src H' a (n + 2) → Q (.int i) H'
structure TxtQ (mg : Str → Option Value) : Prop where
  isi : mg "isinstance" = none
  int : mg "int" = none
  bool : mg "bool" = none
  list : mg "list" = none
  dict : mg "dict" = none
end Lw

set_option Elab.async false
set_option linter.all false
set_option maxRecDepth 100000
set_option maxHeartbeats 4000000
namespace Lk
open PySem PySem.Spec PyProof.Rows L2
/-! list(d.keys()) -/
def tListKeys (te : TE) : TE := fun σ H Q => te σ H fun x H1 => ∃ (d : Addr) (kvs : List (Key × V)), x = .ref d ∧ H1 d = some (.dK kvs) ∧ ∀ p, H1 p = none → Q (.ref p) (upd H1 p (.lst (kvs.map fun kv => kV kv.1)))
section
variable {X : Cx} {e : Expr} {te : TE} {p apos cpos pos : Pos}
theorem pe_listKeys (hc : X.calm = true) (he : PE X e te) (hg : Gl X "list") (hm : X.mg "list" = none) (hv : bootBuiltins "list" = some (.type "list")) (hbase : attributeBase e "keys" X.env (eval e X.env) = eval e X.env := by rfl) (hline : (apos.endLine == cpos.line) = true := by rfl)
    (hs : starEach [.Call (.Attribute e "keys" apos) [] [] cpos] X.env = (false, eval (.Call (.Attribute e "keys" apos) [] [] cpos) X.env) :: starEach [] X.env := by rfl) :
    PE X (.Call (.Name "list" p) [.Call (.Attribute e "keys" apos) [] [] cpos] [] pos) (tListKeys te) := by
  refine ⟨fun pins s σ H Q I hq => ?_⟩
  refine wpAny_Call_Name_kw (ld_blt I hg hm hv ?_)
  refine PyProof.Rows.callWith_type1 ?_ hs rfl
  rw [hs]
  show wpAny _ _ (spliced ((false, eval (.Call (.Attribute e "keys" apos) [] [] cpos) X.env) :: backTo pos (starEach [] X.env))) _ _ s
  refine Calls.spliced_cons ?_
  refine wpAny_Call_method (T := "dict") (id := "dict.keys") hbase rfl hline F.plainAttrs_dict F.slot_dict_keys F.type_dict_keys (thn (he.run pins s σ H _ I hq) fun u s1 ⟨x, H1, I1, rx, d, kvs, ex, hd, q⟩ => ?_)
  subst ex
  obtain rfl : u = Value.ref d := rx
  obtain ⟨hz, hs0, vs, kv, hdo⟩ := I1.hok d _ hd
  obtain ⟨ep, hat⟩ := hdo.dictAt
  have lk : kvs.length = vs.length := Paired.length kv
  have I2 : Inv X pins σ H1 { s1 with heap := s1.heap.push { cls := .type "dict_keys", data := .fields #[.ref d] } } := I1.kept (t' := s1.toks) fun b ob q => Heap.get?_push_of_some _ q
  have ek : (kvs.map fun kv => kV kv.1) = vs.map fun p => kV p.1 := by
    have e := congrArg (List.map kV) kv.keys
    rw [List.map_map, List.map_map] at e
    exact e
  refine ⟨hdo.typeIs, hdo.mapOf.noDict, ?_⟩
  show wpAny _ _ (callWith cpos (.builtin "dict.keys") [.ref d] [] []) _ X.xe s1
  refine method_meetsIn F.slot_dict_keys F.entry_dict_keys rfl (PySem.evalArgs_none ⟨rfl, hdo.typeIs, F.args_dict_keys_1 _, _, PySem.W.kdl_meets_keys (mixKind X.prog X.w) d hs0, ⟨vs, hdo⟩, ?_⟩)
  refine Calls.spliced_nil ?_
  refine PySem.W.kdl_call (PySem.W.kdl_keys (knd := mixKind X.prog X.w) (kvs := vs) (ep := ep)) (I1.ok.hd hc) ⟨⟨_, Heap.get?_push_size _ rfl, rfl, rfl⟩, hat.push _⟩ (by rw [← lk]; exact hz) fun h' tk acc c' hk hD hacc => ?_
  have hv2 : Vals (vs.map fun p => kV p.1) acc.toList := keys_at (by rw [Array.length_toList]; exact hacc.1) fun j v e => hacc.2 j v (by rw [← Array.getElem?_toList]; exact e)
  refine ⟨.ref _, upd H1 _ (.lst (kvs.map fun kv => kV kv.1)), I2.laid (t' := tk) hk (Nat.le_refl _)
    (show ObjOk X.prog X.w _ _ _ (.lst (kvs.map fun kv => kV kv.1)) from ⟨by rw [List.length_map]; exact hz, acc.toList, c', by rw [ek]; exact hv2, by rw [Array.toArray_toList]; exact hD⟩), rfl, q _ (I2.hok.fresh (Nat.le_refl _))⟩
end
end Lk
namespace Lw
open PySem PySem.Spec PyProof.Rows L2
/-! one order of texts only -/
theorem rising_all : ∀ (r : List Str) (p : Str), risingS p r = true → (∀ y ∈ r, p.cps.toList ≤ y.cps.toList) ∧ sortedS r = true
  | [], _, _ => ⟨fun _ h => (List.not_mem_nil h).elim, rfl⟩
  | x :: r, p, h => by
    unfold risingS at h
    rw [Bool.and_eq_true, Bool.not_eq_true', ltCps_eq] at h
    have h1 : ¬ x.cps.toList < p.cps.toList := of_decide_eq_false h.1
    have h2 : p.cps.toList ≤ x.cps.toList := List.not_lt.mp h1
    refine ⟨fun y hy => ?_, h.2⟩
    rcases List.mem_cons.mp hy with rfl | hy
    · exact h2
    · exact List.le_trans h2 ((rising_all r x h.2).1 y hy)
theorem str_ext {a b : Str} (h : a.cps.toList = b.cps.toList) : a = b := by
  have := Array.toList_inj.mp h
  cases a
  cases b
  cases this
  rfl
theorem sorted_one : ∀ {xs ys : List Str}, sortedS xs = true → sortedS ys = true → xs.Perm ys → xs = ys
  | [], ys, _, _, p => by rw [List.nil_perm.mp p]
  | x :: xs, [], _, _, p => by cases List.perm_nil.mp p
  | x :: xs, y :: ys, hx, hy, p => by
    obtain ⟨a1, a2⟩ := rising_all xs x hx
    obtain ⟨b1, b2⟩ := rising_all ys y hy
    have e : x = y := by
      rcases List.mem_cons.mp (p.mem_iff.mp List.mem_cons_self) with e | e
      · exact e
      rcases List.mem_cons.mp (p.mem_iff.mpr (List.mem_cons_self (a := y))) with e2 | e2
      · exact e2.symm
      exact str_ext (List.le_antisymm (a1 y e2) (b1 x e))
    subst e
    rw [sorted_one a2 b2 (List.Perm.cons_inv p)]
end Lw

set_option Elab.async false
set_option linter.all false
set_option maxRecDepth 100000
set_option maxHeartbeats 0
namespace Hc
open PySem PySem.Spec PyProof.Rows L2
/-! a Hook: facts, defs wherever they stand, one Bool more -/
abbrev Al : Type := He.AlD × Bool
def obG (n : Nat) (fa : List He.Fa) (fn : List He5.DefA) (own : PySem.W.Frag → Bool) (g : Addr → Option Obj) : Al := (He5.obsAG n fa fn g, own (He.frG g (He5.asA g n)))
def Says (fa : List He.Fa) (fn : List He5.DefA) (own : PySem.W.Frag → Bool) (K : PySem.W.Frag) : Prop := He5.SaysA fa fn K ∧ own K = true
def hook (n : Nat) (fa : List He.Fa) (fn : List He5.DefA) (own : PySem.W.Frag → Bool) : PySem.W.Hook where
  α := Al
  obs := fun s => obG n fa fn own s.heap.get?
  val := fun _ => (He5.valA fn, true)
  says := fun _ h => ∃ K : PySem.W.Frag, K.In h ∧ Says fa fn own K
  of := fun _ _ e => ⟨_, He.frG_in, congrArg Prod.fst e, congrArg Prod.snd e⟩
  keeps := fun _ _ _ ⟨K, hK, c⟩ k => ⟨K, PySem.W.Frag.In.keeps hK k, c⟩
theorem obG_eq {n : Nat} {fa : List He.Fa} {fn : List He5.DefA} {own : PySem.W.Frag → Bool} {g : Addr → Option Obj} {s : Shared} (h : ∀ a, g a = s.heap.get? a) : obG n fa fn own g = (hook n fa fn own).obs s := by
  rw [show g = s.heap.get? from funext h] <;> rfl
theorem Says.fact {fa : List He.Fa} {fn : List He5.DefA} {own : PySem.W.Frag → Bool} {K : PySem.W.Frag} (c : Says fa fn own K) {f : He.Fa} (hf : f ∈ fa) : f.ok K = true := by
  obtain ⟨i, hi⟩ := List.getElem?_of_mem hf
  exact c.1.fact i hi
/-- a class's constants -/
def cvS (K : PySem.W.Frag) (C : Addr) (f z : Str) : Bool := match PySem.W.findCls K (.ref C) (.type "type") f with
  | some (.val (.str y _)) => decide (y = z)
  | _ => false
def cvI (K : PySem.W.Frag) (C : Addr) (f : Str) (i : Int) : Bool := match PySem.W.findCls K (.ref C) (.type "type") f with
  | some (.val (.int y _)) => decide (y = i)
  | _ => false
theorem cvS_ok {K : PySem.W.Frag} {C : Addr} {f z : Str} (h : cvS K C f z = true) : ∃ u, ClX.CVal K C (.type "type") f (.str z) u := by
  unfold cvS at h
  split at h
  · rename_i y t e
    exact ⟨_, e, t, by rw [of_decide_eq_true h]⟩
  · cases h
theorem cvI_ok {K : PySem.W.Frag} {C : Addr} {f : Str} {i : Int} (h : cvI K C f i = true) : ∃ u, ClX.CVal K C (.type "type") f (.int i) u := by
  unfold cvI at h
  split at h
  · rename_i y t e
    exact ⟨_, e, t, by rw [of_decide_eq_true h]⟩
  · cases h
def crB (K : PySem.W.Frag) (C : Addr) : Bool := PySem.W.readsIn K C (.type "type") && He.eqO (PySem.W.specialIn K (.ref C) "__getattribute__") (some (some (.builtin "type.__getattribute__")))
theorem crB_ok {K : PySem.W.Frag} {C : Addr} (h : crB K C = true) : ClX.CRead K C (.type "type") := ⟨(He.ba h).1, He.eqO_ok (He.ba h).2⟩
end Hc
namespace Lw
open PySem PySem.Spec PyProof.Rows L2
def dG (x : Str) (st : Stmt) : He5.DefA := ⟨fun K => He.ga K x, x, x, defArgs st, defBody st, defScope st, [], []⟩
def dM (C m q : Str) (st : Stmt) (kwd : List (Str × He.Dv) := []) : He5.DefA := ⟨fun K => He.ma K (He.ga K C) m, m, q, defArgs st, defBody st, defScope st, [], kwd⟩
end Lw

set_option Elab.async false
set_option linter.all false
set_option maxRecDepth 100000
set_option maxHeartbeats 4000000
namespace Lw
open PySem PySem.Spec PyProof.Rows L2
/-! an expression that may be read in two ways -/
theorem pe_or {X : Cx} {e : Expr} {t1 t2 : TE} (h1 : PE X e t1) (h2 : PE X e t2) : PE X e (fun σ H Q => t1 σ H Q ∨ t2 σ H Q) := ⟨fun pins s σ H Q I h => h.elim (h1.run pins s σ H Q I) (h2.run pins s σ H Q I)⟩
theorem kb1 {K : PySem.W.Frag} {x qual : Str} {params : Arguments} {body : List Stmt} {scope : Scope} {kws : List (Str × V)} {f : Addr} {fd : FuncData} {ps ks : List Str} {g : List Value → List Value} {gV : List V → List V} (F : FunD K x qual params body scope [] kws f fd) (hr : ∀ {zs us}, Vals zs us → Vals (gV zs) (g us))
    (h : ∀ (kV doc pm : Value) (an : Option Addr) (cdv ct : Value) (u : Value) (ws : List Value), ws.length = ks.length → bindArgs (PySem.W.fnOf x qual params body scope .none kV doc pm an cdv ct) ⟨[u], ks.zip ws⟩ = pure (ps.zip (u :: g ws))) : KBn K fd ps 1 ks (fun us ws => us ++ g ws) (fun vs zs => vs ++ gV zs) := by
  obtain ⟨oc, od, dV, kV, doc, pm, an, cdv, ct, osl, rfl, lk, hcd, hD, hK⟩ := F.ex
  rcases hD with ⟨_, rfl⟩ | ⟨e, _⟩
  · exact ⟨fun s us ws _ l1 l2 => by
      match us, l1 with
      | [u], _ => exact .of_eq (h kV doc pm an cdv ct u ws l2), fun r q => r.append (hr q)⟩
  · exact absurd rfl e
/-! properties of the text's classes -/
def propB (K : PySem.W.Frag) (C : Addr) (m : Str) : Bool := He.eqO (PySem.W.findIn K (.ref C) m) (some (some (.ref (He.ma K C m)))) && (He.eqO (PySem.W.specialIn K (.ref (He.ma K C m)) "__get__") (some (some (.builtin "property.__get__"))) &&
  (decide (PySem.W.takesIn K (.ref (He.ma K C m)) = some true) && (match PySem.W.recIn K (He.ma K C m) "property" with
    | some (.ref _ :: _) => true
    | _ => false)))
theorem propB_ok {K : PySem.W.Frag} {C : Addr} {m : Str} (h : propB K C m = true) : PropOf K C m (He.ma K C m) (He5.wf K C "property" m) := by
  obtain ⟨h1, h⟩ := He.ba h
  obtain ⟨h2, h⟩ := He.ba h
  obtain ⟨h3, h4⟩ := He.ba h
  refine ⟨He.eqO_ok h1, He.eqO_ok h2, of_decide_eq_true h3, ?_⟩
  unfold He5.wf
  split at h4
  · rename_i f r e
    rw [e]
    exact ⟨r, rfl⟩
  · cases h4
def conB (K : PySem.W.Frag) (C : Addr) (f z : Str) : Bool := match PySem.W.findIn K (.ref C) f with
  | some (some (.str y t)) => decide (y = z) && He.eqO (PySem.W.specialIn K (.str y t) "__get__") (some none)
  | _ => false
theorem conB_ok {K : PySem.W.Frag} {C : Addr} {f z : Str} (h : conB K C f z = true) (hc : PySem.W.copiedNames.contains f = false) : ∃ u, Con K C f (.str z) u := by
  unfold conB at h
  split at h
  · rename_i y t e
    obtain ⟨h1, h2⟩ := He.ba h
    have e1 := of_decide_eq_true h1
    subst e1
    exact ⟨_, e, ⟨_, rfl⟩, He.eqO_ok h2, hc⟩
  · cases h
def dP (C m q : Str) (st : Stmt) : He5.DefA := ⟨fun K => He5.wf K (He.ga K C) "property" m, m, q, defArgs st, defBody st, defScope st, [], []⟩
/-! cells: names with integers or None -/
def IntN (v : V) : Prop := (∃ i : Int, v = .int i) ∨ v = .non
def RowOk (kvs : List (Key × V)) : Prop := (∃ ks : List Str, kvs.map (·.1) = ks.map Sum.inr ∧ ks.Nodup ∧ ∀ z ∈ ks, IsWord z) ∧ (∀ p ∈ kvs, IntN p.2) ∧ kvs.length ≤ 60
theorem IntN.flat {v : V} (h : IntN v) : flatB v = true := by
  rcases h with ⟨i, rfl⟩ | rfl <;> rfl
theorem RowOk.nodup {kvs : List (Key × V)} (h : RowOk kvs) : (kvs.map (·.1)).Nodup := by
  obtain ⟨⟨ks, e, n, _⟩, _⟩ := h
  rw [e]
  exact List.Pairwise.map _ (fun a b ne q => ne (Sum.inr.inj q)) n
theorem valV_mem : ∀ {kvs : List (Key × V)}, (kvs.map (·.1)).Nodup → ∀ p ∈ kvs, valV kvs p.1 = some p.2
  | [], _, _, h => by cases h
  | (k, v) :: r, n, p, h => by
    rw [List.map_cons, List.nodup_cons] at n
    rcases List.mem_cons.mp h with rfl | h
    · show valV ((k, v) :: r) k = some v
      unfold valV
      simp
    · have ne : p.1 ≠ k := fun e => n.1 (by rw [← e]; exact List.mem_map.mpr ⟨p, h, rfl⟩)
      have ih := valV_mem n.2 p h
      have hd : decide (k = p.1) = false := decide_eq_false fun e => ne e.symm
      show ((List.find? (fun kv => decide (kv.1 = p.1)) ((k, v) :: r)).map (·.2)) = some p.2
      rw [List.find?_cons]
      simp only [hd]
      exact ih
theorem depth_strs : ∀ ks : List Str, PyData.depthAll (ks.map PyData.str) = 0
  | [] => rfl
  | z :: r => by
    show max (PyData.depth (.str z)) (PyData.depthAll (r.map PyData.str)) = 0
    rw [depth_strs r]
    rfl
theorem canLay_strs : ∀ ks : List Str, (∀ z ∈ ks, IsWord z) → PyData.canLayAll0 (ks.map PyData.str) = true
  | [], _ => rfl
  | z :: r, h => by
    show (PyData.canLay0 (.str z) && PyData.canLayAll0 (r.map PyData.str)) = true
    rw [canLay_strs r fun y hy => h y (List.mem_cons_of_mem _ hy)]
    have h3 : PyData.canLay0 (.str z) = true := by
      show z.cps.all (· < 0x110000) = true
      rw [← Array.all_toList, List.all_eq_true]
      intro c hc
      have := (h z List.mem_cons_self).2.2 c hc
      exact decide_eq_true (by omega)
    rw [h3]
    rfl
theorem shaped_strs (ks : List Str) (h : ∀ z ∈ ks, IsWord z) : SeqAt.shaped (.list (ks.map PyData.str)) = true := by
  have e1 : PyData.canLay0 (.list (ks.map PyData.str)) = true := canLay_strs ks h
  have e2 : PyData.depth (.list (ks.map PyData.str)) ≤ 64 := by
    have e3 := depth_strs ks
    simp only [PyData.depth, e3]
    decide
  unfold SeqAt.shaped
  rw [e1, decide_eq_true e2]
  rfl
theorem eqv_strs {ks : List Str} (h : ∀ z ∈ ks, IsWord z) : PyData.eqv (.list (ks.map PyData.str)) (.list (ks.map PyData.str)) = true := PySem.SeqAt.eqv_refl _ (canLay_strs ks h)
theorem scalN {v : V} (h : IntN v) : scal v v = true := by
  rcases h with ⟨i, rfl⟩ | rfl <;> rfl
theorem src_ne_strs {H : Hp} {a l : Addr} {n : Nat} {ws : List Str} (hs : Src H a n) (hl : H l = some (.lst (ws.map V.str))) : l ≠ a := fun z => by
  obtain ⟨_, _, _, h, _⟩ := hs
  subst z
  rw [hl] at h
  have e := HO.lst.inj (Option.some.inj h)
  cases ws with
  | nil => cases e
  | cons z r => cases e
theorem str_it {a b : Str} {A B : Prop} (h1 : a = b → A) (h2 : a ≠ b → B) : if decide (V.str a = V.str b) = true then A else B := by
  by_cases e : a = b
  · rw [if_pos (by rw [decide_eq_true_eq, e])]; exact h1 e
  · rw [if_neg (by rw [decide_eq_true_eq]; exact fun z => e (V.str.inj z))]; exact h2 e
theorem dec_str {a b : Str} : decide (V.str a = V.str b) = decide (a = b) := by
  by_cases e : a = b
  · rw [decide_eq_true e, decide_eq_true (by rw [e])]
  · rw [decide_eq_false e, decide_eq_false fun z => e (V.str.inj z)]
/-- both branches come to R -/
theorem sq_ifj {c : TT} {t1 t2 u : TS} {D : Ends} {σ : L2.St} {H : Hp} (P : Bool → Hp → Prop) (R : Hp → Prop) (h : ∀ Q : Bool → Hp → Prop, (∀ b H', P b H' → Q b H') → c σ H Q) (kt : ∀ H', P true H' → ∀ D' : Ends, (∀ G, R G → D'.nx σ G) → t1 D' σ H') (kf : ∀ H', P false H' → ∀ D' : Ends, (∀ G, R G → D'.nx σ G) → t2 D' σ H')
    (k : ∀ G, R G → u D σ G) : tSeq (tIfS c t1 t2) u D σ H :=
  h _ fun b H' p => by
    cases b with
    | true => rw [if_pos rfl]; exact kt H' p _ k
    | false => rw [if_neg Bool.false_ne_true]; exact kf H' p _ k
theorem s1_do {te : TE} {D : Ends} {σ : L2.St} {H : Hp} (P : V → Hp → Prop) (h : ∀ Q : VK, (∀ x H', P x H' → Q x H') → te σ H Q) (k : ∀ x H', P x H' → D.nx σ H') : (tDrop te) D σ H := h _ k
end Lw

set_option Elab.async false
set_option linter.all false
set_option maxRecDepth 100000
set_option maxHeartbeats 4000000
namespace Lw
open PySem PySem.Spec PyProof.Rows L2
def top (i : Nat) : Stmt := PySem.Challenge.pw_filteredcopies_k31_messages_made.main.body.getD i (.Pass ⟨0, 0, 0, 0⟩)
abbrev sPutI : Stmt := inClass (top 2) 1
abbrev sPutC : Stmt := inClass (top 2) 2
abbrev sChgI : Stmt := inClass (top 3) 1
abbrev sChgC : Stmt := inClass (top 3) 2
abbrev sTakeI : Stmt := inClass (top 4) 1
abbrev sTakeC : Stmt := inClass (top 4) 2
abbrev sSource : Stmt := top 6
abbrev sDraw : Stmt := top 7
abbrev sWord : Stmt := top 9
abbrev sWords : Stmt := top 10
abbrev sNumber : Stmt := top 11
abbrev sIsInteger : Stmt := top 12
section
variable {P : Program} {w : World} {K : PySem.W.Frag} {mg : Str → Option Value} {base : Heap}
theorem scSource : FnScope ["script", "at", "cell", "great"] ["script", "at"] (defScope sSource) := ⟨rfl, rfl, rfl, by decide +kernel, rfl, by decide +kernel, by decide +kernel⟩
theorem ok_source {f : Addr} {fd : FuncData} (F : FnP K "_law_source" sSource f fd) (T : TxtD mg) (hsum : mg "sum" = none) : FnOk P w K mg base CX0 1 f fd ["script", "at"] (spSource K) := by
  refine F.ok scSource (fun vs H Q E h => ?_) (fun cdv A outer s H vs Q E hr h => ?_)
  · obtain ⟨a, ns, i, rfl, _⟩ := h
    rfl
  · obtain ⟨a, ns, i, rfl, hS, hl, i0, i1, k⟩ := h
    refine ⟨_, PSs.nox (pss_cons (ps_set (i := 2) scSource.nd rfl (Or.inl rfl) (pe_ifExp (pt_cmpR op_lt (pv 1) (pe_callB call_len_seq (by rfl) T.len PySem.boot_len (pa_cons (pv 0) pa_nil)) (nomark _)) (pe_callTy call_int1 (by rfl) T.int (by decide +kernel) (pa_cons (pe_ix ix_list (pv 0) (pv 1) (fun _ _ => rfl)) pa_nil))
        (pe_op op_modN (pe_callTy call_int1 (by rfl) T.int (by decide +kernel) (pa_cons (pe_callB (cr_sum rfl) (by rfl) hsum (by decide +kernel) (pa_cons (pe_slice sl_list (pv 0) po_none (po_some pe_int)) pa_nil)) pa_nil)) pe_int)))
      (pss_cons (ps_set (i := 3) scSource.nd rfl (Or.inl rfl) (pe_ifExp (pt_cmpR op_ge (pe_callB call_abs (by rfl) T.abs (by decide +kernel) (pa_cons (pv 2) pa_nil)) (pe_op op_pow pe_int pe_int) (nomark _)) (pe_callB call_abs (by rfl) T.abs (by decide +kernel) (pa_cons (pv 2) pa_nil)) pe_int))
      (pss_one (ps_ret (pe_lst (pa_cons (pv 3) (pa_cons (pe_op op_add (pe_op op_add (pe_op op_modN (pe_callTy call_int1 (by rfl) T.int (by decide +kernel) (pa_cons (pv 2) pa_nil)) pe_int) (pe_op op_mul pe_int (pv 1))) pe_int) (pa_cons pe_int pa_nil)))))))), ?_⟩
    refine sq_set (fun x H' => Same H H' ∧ ∃ c : Int, x = .int c) (fun Q q => ?_) ?_
    · refine ⟨_, rfl, _, rfl, a, _, rfl, .inl hS, _, _, rfl, rfl, _, rfl, ?_⟩
      refine bool_ite (fun c => ?_) (fun c => ?_)
      · obtain ⟨x, hx, hm⟩ := atI_get (xs := ns.map V.int) i0 (by simpa using c)
        obtain ⟨z, _, rfl⟩ := List.mem_map.mp hm
        exact ⟨_, rfl, _, rfl, a, _, _, _, rfl, rfl, hS, hx, .inl ⟨_, rfl, q _ _ ⟨Same.refl H, z, rfl⟩⟩⟩
      · refine ⟨_, rfl, 1, rfl, a, _, rfl, hS, fun p hp => ?_⟩
        obtain ⟨ms, hms, hml⟩ := cutV_ints ns none (some 1)
        refine ⟨p, ms, rfl, SqL.of (by rw [← hms]; exact upd_same), ?_⟩
        exact .inl ⟨_, rfl, _, _, rfl, rfl, (by show (1000003 : Int) ≠ 0; decide), q _ _ ⟨Lw.Same.new (Same.refl H) hp, _, rfl⟩⟩
    rintro _ H1 ⟨s1, c, rfl⟩
    refine sq_set (fun x H' => H1 = H' ∧ ∃ d : Int, x = .int d ∧ 0 ≤ d) (fun Q q => ?_) ?_
    · refine ⟨_, rfl, _, rfl, _, _, rfl, rfl, ⟨by decide, by decide, by decide⟩, _, _, rfl, rfl, _, rfl, ?_⟩
      refine bool_ite (fun _ => ?_) (fun _ => ?_)
      · exact ⟨_, rfl, _, rfl, q _ _ ⟨rfl, _, rfl, by split <;> omega⟩⟩
      · exact q _ _ ⟨rfl, 0, rfl, by decide⟩
    rintro _ _ ⟨rfl, d, rfl, d0⟩
    refine ⟨_, rfl, _, rfl, .inl ⟨_, rfl, _, _, rfl, rfl, (by show (2305843009213693951 : Int) ≠ 0; decide), _, rfl, _, _, rfl, rfl, .inl ⟨by decide, by decide⟩, _, _, rfl, rfl, _, _, rfl, rfl, (by show 3 ≤ sizeLine; decide), fun p hp => ?_⟩⟩
    have hb := fmod_src c
    exact k p _ (none_of_same s1 hp) (Lw.Same.new s1 hp) ⟨d, _, 0, upd_same, d0, by omega, by omega, by decide, by decide⟩
theorem scDraw : FnScope ["source", "many", "digit", "mixed"] ["source", "many"] (defScope sDraw) := ⟨rfl, rfl, rfl, by decide +kernel, rfl, by decide +kernel, by decide +kernel⟩
theorem ok_draw {f : Addr} {fd : FuncData} (F : FnP K "_law_draw" sDraw f fd) (T : TxtD mg) : FnOk P w K mg base CX0 1 f fd ["source", "many"] spDrawW := by
  refine F.ok scDraw (fun vs H Q E h => ?_) (fun cdv A outer s H vs Q E hr h => ?_)
  · obtain ⟨a, n, m, rfl, _⟩ := h
    rfl
  · obtain ⟨a, n, m, rfl, ⟨d, s', t, hA, d0, s0, s1, t0, t1⟩, hn, m0, m1, k⟩ := h
    have hu := hu_of hr
    have nd := scDraw.nd
    refine ⟨_, PSs.nox (pss_cons (ps_if (pt_cmpR op_gt (pe_ix ix_list (pv 0) pe_int (fun _ _ => rfl)) pe_int (nomark _))
        (pss_cons (ps_set (i := 2) nd rfl (Or.inl rfl) (pe_op op_modN (pe_callTy call_int1 (by rfl) T.int (by decide +kernel) (pa_cons (pe_ix ix_list (pv 0) pe_int (fun _ _ => rfl)) pa_nil)) (pv 1)))
          (pss_cons (ps_asg (pe_op op_fdivW (pe_ix ix_list (pv 0) pe_int (fun _ _ => rfl)) (pv 1)) (pg_sub (pv 0) pe_int set_list)) (pss_one (ps_ret (pv 2))))) pss_nil)
      (pss_cons (ps_asg (pe_op op_add (pe_ix ix_list (pv 0) pe_int (fun _ _ => rfl)) pe_int) (pg_sub (pv 0) pe_int set_list))
      (pss_cons (ps_set (i := 3) nd rfl (Or.inl rfl) (pe_op op_modN (pe_callTy call_int1 (by rfl) T.int (by decide +kernel) (pa_cons (pe_op op_add (pe_op op_pow (pe_op op_add (pe_ix ix_list (pv 0) pe_int (fun _ _ => rfl)) (pe_op op_mul pe_int (pe_ix ix_list (pv 0) pe_int (fun _ _ => rfl)))) pe_int) (pe_op op_mul pe_int (pe_ix ix_list (pv 0) pe_int (fun _ _ => rfl)))) pa_nil)) pe_int))
      (pss_cons (ps_set (i := 3) nd rfl (Or.inl rfl) (pe_op op_modN (pe_callTy call_int1 (by rfl) T.int (by decide +kernel) (pa_cons (pe_op op_add (pe_op op_pow (pe_op op_add (pv 3) (pe_op op_mul pe_int (pe_ix ix_list (pv 0) pe_int (fun _ _ => rfl)))) pe_int) (pe_op op_mul pe_int (pv 3))) pa_nil)) pe_int))
      (pss_one (ps_ret (pe_op op_modN (pe_callTy call_int1 (by rfl) T.int (by decide +kernel) (pa_cons (pe_op op_fdivN (pv 3) pe_int) pa_nil)) (pv 1)))))))), ?_⟩
    have zA : ∀ (r : Int), 0 ≤ r.fmod m ∧ r.fmod m < m := fun r => ⟨Int.fmod_nonneg_of_pos r m0, Int.fmod_lt_of_pos r m0⟩
    have mz : m ≠ 0 := by omega
    refine sq_if (fun b H' => H = H' ∧ b = decide (0 < d)) (fun Q q => ?_) ?_ ?_
    · exact ⟨_, rfl, a, _, _, _, rfl, rfl, SqL.of hA, rfl, _, _, rfl, rfl, _, rfl, q _ _ ⟨rfl, rfl⟩⟩
    · rintro _ ⟨rfl, c⟩
      refine ⟨_, rfl, a, _, _, _, rfl, rfl, SqL.of hA, rfl, .inl ⟨_, rfl, _, rfl, _, _, rfl, rfl, mz, ?_⟩⟩
      refine ⟨_, rfl, a, _, _, _, rfl, rfl, SqL.of hA, rfl, _, rfl, _, _, rfl, rfl, wide_div m0 m1 (by decide) (by decide), _, rfl, a, _, _, _, rfl, rfl, hA, rfl, _, rfl, ?_⟩
      exact k _ _ (Keep.refl H).upd ⟨_, _, _, upd_same, Int.ediv_nonneg d0 (by omega), s0, s1, t0, by omega⟩ (zA d).1 (zA d).2
    · rintro _ ⟨rfl, c⟩
      refine ⟨_, rfl, a, _, _, _, rfl, rfl, SqL.of hA, rfl, _, _, rfl, rfl, _, rfl, a, _, _, _, rfl, rfl, hA, rfl, ?_⟩
      dsimp only
      refine sq_set (fun x H' => upd H a (.lst [.int d, .int s', .int (t + 1)]) = H' ∧ ∃ z : Int, x = .int z ∧ 0 ≤ z ∧ z < 2305843009213693951) (fun Q q => ?_) ?_
      · refine ⟨_, rfl, a, _, _, _, rfl, rfl, SqL.of upd_same, rfl, _, rfl, a, _, _, _, rfl, rfl, SqL.of upd_same, rfl, _, _, rfl, rfl, .inl ⟨by decide, by decide⟩, _, _, rfl, rfl, _, _, rfl, rfl, ⟨by decide, by decide, ?_⟩, _, rfl, a, _, _, _, rfl, rfl, SqL.of upd_same, rfl, _, _, rfl, rfl, .inl ⟨by decide, by decide⟩, _, _, rfl, rfl,
          .inl ⟨_, rfl, _, _, rfl, rfl, (by show (2305843009213693951 : Int) ≠ 0; decide), ?_⟩⟩
        · show (s' + 15485863 * (t + 1)).natAbs < 2 ^ 64
          omega
        · exact q _ _ ⟨rfl, _, rfl, (fmod_src _).1, (fmod_src _).2⟩
      rintro _ _ ⟨rfl, z, rfl, z0, z1⟩
      refine sq_set (fun x H' => upd H a (.lst [.int d, .int s', .int (t + 1)]) = H' ∧ ∃ z : Int, x = .int z ∧ 0 ≤ z ∧ z < 2305843009213693951) (fun Q q => ?_) ?_
      · refine ⟨_, rfl, _, rfl, a, _, _, _, rfl, rfl, SqL.of upd_same, rfl, _, _, rfl, rfl, .inl ⟨by decide, by decide⟩, _, _, rfl, rfl, _, _, rfl, rfl, ⟨by decide, by decide, ?_⟩, _, rfl, _, _, rfl, rfl, .inl ⟨by decide, by decide⟩, _, _, rfl, rfl,
          .inl ⟨_, rfl, _, _, rfl, rfl, (by show (2305843009213693921 : Int) ≠ 0; decide), ?_⟩⟩
        · show (z + 32452867 * (t + 1)).natAbs < 2 ^ 64
          omega
        · refine q _ _ ⟨rfl, _, rfl, Int.fmod_nonneg_of_pos _ (by show (0 : Int) < 2305843009213693921; decide), ?_⟩
          exact Int.lt_trans (Int.fmod_lt_of_pos _ (by show (0 : Int) < 2305843009213693921; decide)) (by decide)
      rintro _ _ ⟨rfl, y, rfl, y0, y1⟩
      refine ⟨_, rfl, _, _, rfl, rfl, ⟨by decide, by decide⟩, .inl ⟨_, rfl, _, rfl, _, _, rfl, rfl, mz, ?_⟩⟩
      exact k _ _ ((Keep.refl H).upd) ⟨_, _, _, upd_same, d0, by omega, by omega, by omega, by omega⟩ (zA _).1 (zA _).2
theorem cal_draw (T : TxtD mg) (D : DefIs K mg "_law_draw" sDraw) : Cal P w K mg base CX0 "_law_draw" 1 ["source", "many"] spDrawW := by
  obtain ⟨f, fd, hm, F⟩ := D
  exact ⟨f, fd, hm, F.kp, ok_draw F T, F.bindsN fun _ _ _ _ _ _ us hl => match us, hl with | [_, _], _ => rfl⟩
abbrev nWord2 : List Str := ["source", "taken", "letters", "word", "letter", "turn"]
theorem scWord : FnScope nWord2 ["source", "taken"] (defScope sWord) := ⟨rfl, rfl, rfl, by decide +kernel, rfl, by decide +kernel, by decide +kernel⟩
theorem ok_word {f : Addr} {fd : FuncData} (F : FnP K "_law_word" sWord f fd) (T : TxtD mg) (cD : Cal P w K mg base CX0 "_law_draw" 1 ["source", "many"] spDrawW) : FnOk P w K mg base CX0 2 f fd ["source", "taken"] (spWord2 K) := by
  refine F.ok scWord (fun vs H Q E h => ?_) (fun cdv A outer s H vs Q E hr h => ?_)
  · obtain ⟨a, b, n, ts, rfl, _⟩ := h
    rfl
  · obtain ⟨a, b, n, ts, rfl, hs, hn, ba, hb, hts, k⟩ := h
    have nd := scWord.nd
    refine ⟨_, PSs.nox (pss_cons (ps_set (i := 2) nd rfl (Or.inr rfl) pe_str)
      (pss_cons (ps_set (i := 3) nd rfl (Or.inl rfl) (pe_join pe_str (pe_lc (own := [("turn", 5)]) (g := gName 5) (tt := tYes) rfl nd (pi_range1 rfl T.range (pa_cons (pe_op op_add pe_int (pe_cal cD hr (pa_cons (pv 0) (pa_cons pe_int pa_nil)))) pa_nil))
        (blkOk_by (N := nWord2) (sc := defScope sWord) (by decide +kernel)) (fun _ _ _ _ _ => pg_name (i := 5) nd rfl (Or.inl rfl)) (fun _ _ _ _ _ => pts_nil) (fun _ _ _ _ _ => pe_ix ix_str (pv 2) (pe_cal cD hr (pa_cons (pv 0) (pa_cons pe_int pa_nil))) (fun _ _ => rfl)))))
      (pss_cons (ps_for PassesOwn.never rfl (pi_str (pv 2)) (pg_name (i := 4) nd rfl (Or.inl rfl))
        (pss_one (ps_if (pt_cmpR op_in_seq (pv 3) (pv 1) rfl) (pss_one (ps_set (i := 3) nd rfl (Or.inl rfl) (pe_op op_add_str (pv 4) (pe_slice sl_str (pv 3) (po_some pe_int) po_none)))) pss_nil)))
      (pss_one (ps_ret (pv 3)))))), ?_⟩
    refine sq_set (fun x H' => H = H' ∧ x = .str letters) (fun Q q => q _ _ ⟨rfl, rfl⟩) ?_
    rintro _ _ ⟨rfl, rfl⟩
    refine sq_set (fun x H' => ∃ z, x = .str z ∧ IsWord z ∧ Keep a H H' ∧ Src H' a (n + 10)) (fun Q q => ?_) ?_
    · refine ⟨⟨_, rfl⟩, _, rfl, a, n, _, rfl, hs, by omega, by decide, by decide, fun H1 i k1 s1 i0 i1 => ⟨_, _, rfl, rfl, _, rfl, by omega, by omega, fun D hD => ?_⟩⟩
      have Da : D ≠ a := s1.ne hD
      refine lc_range (lo := 0) (n := (1 + i).toNat) (fun j H' => ∃ cs : List Nat, H' D = some (.lst ((cs.map sign).map V.str)) ∧ cs.length = j ∧ (∀ c ∈ cs, c ∈ abc) ∧ Keep a H H' ∧ Src H' a (n + 1 + j))
        ⟨[], upd_same, rfl, fun _ h => (List.not_mem_nil h).elim, k1.new hD, s1.new hD⟩ ?_ ?_
      · rintro j H' hj ⟨cs, hd, hl, ha, k2, s2⟩
        refine ⟨rfl, _, rfl, _, rfl, a, _, _, rfl, s2, by omega, by decide, by decide, fun H3 i3 k3 s3 j0 j1 => ?_⟩
        obtain ⟨c, hc, hm⟩ := abc_at j0 j1
        have hd3 := k3 _ _ Da hd
        refine ⟨_, _, c, rfl, rfl, (by show letters.cps.size ≤ sizeLine; rw [letters_cps]; decide), hc, _, hd3, by simp only [List.length_map, hl]; exact small1000 (by omega), cs ++ [c], ?_, by simp [hl], fun x hx => ?_, ?_, ?_⟩
        · rw [upd_same]; simp [sign]
        · rcases List.mem_append.mp hx with h | h
          · exact ha x h
          · rw [List.mem_singleton.mp h]; exact hm
        · intro b' o nb ho
          have e := k3 b' o nb (k2 b' o nb ho)
          by_cases hbD : b' = D
          · exfalso
            rw [hbD] at ho nb
            have := k1 D o nb ho
            rw [hD] at this
            cases this
          · rw [upd_ne hbD]; exact e
        · obtain ⟨d, s', t, h1, h2⟩ := s3
          exact ⟨d, s', t, by rw [upd_ne Da.symm]; exact h1, h2⟩
      · rintro H' ⟨cs, hd, hl, ha, k2, s2⟩
        refine ⟨_, D, cs.map sign, rfl, rfl, .inl (SqL.of hd), ?_, ?_⟩
        · have e1 : ((cs.map sign).map (·.length)).sum = cs.length := by
            clear hd hl ha
            induction cs with
            | nil => rfl
            | cons c r ih => simp only [List.map_cons, List.sum_cons, ih, List.length_cons]; show 1 + _ = _; omega
          have e2 : (PySem.Str.ofString "").length = 0 := by decide +kernel
          rw [e1, e2]
          omega
        · have e : (Txt.join (PySem.Str.ofString "") (cs.map sign)).cps.toList = cs := join_signs _ (by decide +kernel) cs
          refine q _ _ ⟨_, rfl, ⟨?_, ?_, ?_⟩, k2, s2.mono (by omega)⟩
          · rw [len_tl, e]; omega
          · rw [len_tl, e]; omega
          · rw [e]; exact fun c hc => abc_le (ha c hc)
    rintro _ H1 ⟨z, rfl, hz, k1, s1⟩
    have hb1 := k1.seq ba hb
    refine ⟨_, rfl, letters, rfl, ?_⟩
    refine for_it walk_str (fun j σ H' => H1 = H' ∧ ∃ (y : Str) (v4 v5 : Option V), σ = [some (.ref a), some (.ref b), some (.str letters), some (.str y), v4, v5] ∧ WInv z ts j y) ⟨rfl, z, _, _, rfl, WInv.zero hz⟩ (fun _ _ _ _ _ => trivial) ?_ ?_
    · rintro j x σ H' _ hj ⟨rfl, y, v4, v5, rfl, hw⟩ ⟨rfl, c, hc, rfl⟩
      have hc2 : abc[j]? = some c := by
        rw [letters_cps] at hc
        simpa using hc
      refine g_name ?_
      refine ⟨_, rfl, _, rfl, b, _, rfl, .inl hb1, rfl, flat_strs ts, _, rfl, str_mem (fun hin => ?_) (fun hni => ?_)⟩
      · have hw2 := hw.word
        have h9 : sizeLine = 16777216 := by decide
        refine ⟨_, rfl, _, rfl, 1, rfl, _, rfl, ?_, _, _, rfl, rfl, ?_, ?_⟩
        · have := hw2.2.1
          omega
        · have := hw2.2.1
          have e1 : (cand1 y c).length = 1 + (cutS y (some 1) none).length := by
            show (sign c ++ _).length = _
            rw [len_tl, tl_app, List.length_append, ← len_tl (cutS y (some 1) none)]
            rfl
          have e2 := (hw.step hin hc2).word.2.1
          show 1 + _ ≤ _
          omega
        · exact ⟨rfl, _, _, _, rfl, hw.step hin hc2⟩
      · exact ⟨rfl, y, _, _, rfl, hw.stay hni⟩
    · rintro σ H' ⟨rfl, y, v4, v5, rfl, hw⟩
      have e : letters.cps.size = 26 := by rw [letters_cps]; rfl
      rw [e] at hw
      exact ⟨_, rfl, k _ _ k1 s1 hw.word (hw.done hts)⟩
theorem scWords : FnScope ["source", "many", "taken", "found", "turn"] ["source", "many", "taken"] (defScope sWords) := ⟨rfl, rfl, rfl, by decide +kernel, rfl, by decide +kernel, by decide +kernel⟩
theorem ok_words {f : Addr} {fd : FuncData} (F : FnP K "_law_words" sWords f fd) (T : TxtD mg) (cW : Cal P w K mg base CX0 "_law_word" 2 ["source", "taken"] (spWord2 K)) : FnOk P w K mg base CX0 3 f fd ["source", "many", "taken"] (spWords K) := by
  refine F.ok scWords (fun vs H Q E h => ?_) (fun cdv A outer s H vs Q E hr h => ?_)
  · obtain ⟨a, b, n, m, ts, rfl, _⟩ := h
    rfl
  · obtain ⟨a, b, n, m, ts, rfl, hs, hn, ba, hb, hts, hm, k⟩ := h
    have nd := scWords.nd
    have h9 : sizeLine = 16777216 := by decide
    refine ⟨_, PSs.nox (pss_cons (ps_set (i := 3) nd rfl (Or.inl rfl) (pe_lst pa_nil))
      (pss_cons (ps_for PassesOwn.never rfl (pi_range1 rfl T.range (pa_cons (pv 1) pa_nil)) (pg_name (i := 4) nd rfl (Or.inl rfl))
        (pss_one (ps_expr (pe_bm PySem.F.plainAttrs_list PySem.F.slot_list_append PySem.F.type_list_append mt_append (pv 3) (pa_cons (pe_cal cW hr (pa_cons (pv 0) (pa_cons (pe_op op_cat (pv 2) (pv 3)) pa_nil))) pa_nil)))))
      (pss_one (ps_ret (pv 3))))), ?_⟩
    refine sq_set (fun x H1 => ∃ l, x = .ref l ∧ H l = none ∧ H1 = upd H l (.lst [])) (fun Q q => ⟨(by show 0 ≤ sizeLine; decide), fun l nl => q _ _ ⟨l, rfl, nl, rfl⟩⟩) ?_
    rintro _ _ ⟨l, rfl, nl, rfl⟩
    have la : l ≠ a := hs.ne nl
    have lb : l ≠ b := fun z => by subst z; rw [nl] at hb; cases hb
    refine ⟨_, rfl, _, rfl, by omega, by omega, ?_⟩
    refine for_range (lo := 0) (fun j σ G => ∃ (v : Option V) (ws : List Str), σ = [some (.ref a), some (.int m), some (.ref b), some (.ref l), v] ∧ Keep a H G ∧ Src G a (n + 10 * j) ∧ G l = some (.lst (ws.map V.str)) ∧ ws.length = j ∧ GoodWs ws ts) ⟨_, [], rfl, (Keep.refl H).new nl, hs.new nl, upd_same, rfl, GoodWs.nil⟩ ?_ ?_
    · rintro j σ G hj ⟨v, ws, rfl, kG, sG, hl, wl, gw⟩
      have hj2 : j < 8 := by omega
      refine g_name ?_
      refine ⟨_, rfl, .inl ⟨rfl, _, SqL.of hl⟩, _, rfl, _, rfl, _, rfl, b, l, _, _, rfl, rfl, kG _ _ ba hb, hl, ?_, fun p np => ?_⟩
      · simp only [List.length_map]; omega
      refine ⟨a, p, _, ts ++ ws, rfl, sG.new np, by omega, sG.ne np, SqL.of (by rw [List.map_append]; exact upd_same), ?_, fun G2 z k2 s2 hz hzn => ?_⟩
      · rw [List.length_append]; omega
      have hl2 := k2 _ _ la ((Lw.Same.new (Same.refl G) np) _ _ hl)
      refine ⟨l, _, _, rfl, rfl, hl2, ?_, ?_⟩
      · simp only [List.length_map]; omega
      refine ⟨_, ws ++ [z], rfl, ?_, ?_, ?_, ?_, gw.snoc hz hzn⟩
      · exact keep_at nl ((kG.trans ((Keep.refl G).new np)).trans k2)
      · obtain ⟨d, s', t, h1, h2⟩ := s2.mono (show n + 10 * j + 10 ≤ n + 10 * (j + 1) by omega)
        exact ⟨d, s', t, by rw [upd_ne la.symm]; exact h1, h2⟩
      · rw [upd_same, List.map_append]; rfl
      · rw [List.length_append, wl]; rfl
    · rintro σ G ⟨v, ws, rfl, kG, sG, hl, wl, gw⟩
      exact ⟨_, rfl, k l G ws nl kG (sG.mono (by omega)) hl (by omega) gw⟩
theorem scNumber : FnScope ["source", "limit"] ["source", "limit"] (defScope sNumber) := ⟨rfl, rfl, rfl, by decide +kernel, rfl, by decide +kernel, by decide +kernel⟩
theorem ok_number {f : Addr} {fd : FuncData} (F : FnP K "_law_number" sNumber f fd) (cD : Cal P w K mg base CX0 "_law_draw" 1 ["source", "many"] spDrawW) : FnOk P w K mg base CX0 2 f fd ["source", "limit"] spNumL := by
  refine F.ok scNumber (fun vs H Q E h => ?_) (fun cdv A outer s H vs Q E hr h => ?_)
  · obtain ⟨a, n, m, rfl, _⟩ := h
    rfl
  · obtain ⟨a, n, m, rfl, hs, hn, m0, m1, k⟩ := h
    refine ⟨_, PSs.nox (pss_cons (ps_if (pt_cmpR op_gt (pe_cal cD hr (pa_cons (pv 0) (pa_cons pe_int pa_nil))) pe_int (nomark _)) (pss_one (ps_ret (pe_op op_sub (pe_cal cD hr (pa_cons (pv 0) (pa_cons pe_int pa_nil))) pe_int))) pss_nil)
      (pss_one (ps_ret (pe_op op_add (pe_op op_sub (pe_cal cD hr (pa_cons (pv 0) (pa_cons (pe_op op_sub (pe_op op_mul pe_int (pv 1)) pe_int) pa_nil))) (pv 1)) pe_int)))), ?_⟩
    refine sq_if1 (fun b H1 => Keep a H H1 ∧ Src H1 a (n + 1)) (fun Q q => ⟨_, rfl, a, n, _, rfl, hs, by omega, by decide, by decide, fun H1 i k1 s1 _ _ => ⟨_, _, rfl, rfl, _, rfl, q _ _ ⟨k1, s1⟩⟩⟩) ?_ ?_
    · rintro H1 ⟨k1, s1⟩
      exact ⟨_, rfl, a, _, _, rfl, s1, by omega, by decide, by decide, fun H2 i k2 s2 i0 i1 => ⟨_, _, rfl, rfl, k _ _ (k1.trans k2) (s2.mono (by omega))⟩⟩
    · rintro H1 ⟨k1, s1⟩
      refine ⟨_, rfl, _, rfl, _, _, rfl, rfl, .inl ⟨by decide, by decide⟩, _, _, rfl, rfl, a, _, _, rfl, s1, by omega, by omega, by omega, fun H2 i k2 s2 i0 i1 => ⟨_, rfl, _, _, rfl, rfl, _, _, rfl, rfl, k _ _ (k1.trans k2) (s2.mono (by omega))⟩⟩
theorem scIsInteger : FnScope ["value"] ["value"] (defScope sIsInteger) := ⟨rfl, rfl, rfl, by decide +kernel, rfl, by decide +kernel, by decide +kernel⟩
theorem ok_isInteger {f : Addr} {fd : FuncData} (F : FnP K "_law_is_integer" sIsInteger f fd) (T : TxtQ mg) : FnOk P w K mg base CX0 1 f fd ["value"] (spIsInteger K) := by
  refine F.ok scIsInteger (fun vs H Q E h => ?_) (fun cdv A outer s H vs Q E hr h => ?_)
  · obtain ⟨v, b, rfl, _⟩ := h
    rfl
  · obtain ⟨v, b, rfl, hv, k⟩ := h
    refine ⟨_, PSs.nox (pss_one (ps_ret (pe_and (pe_callB call_isi (by rfl) T.isi (by decide +kernel) (pa_cons (pv 0) (pa_cons (pe_bltn (v := .ty "int") (by rfl) T.int (by decide +kernel) rfl) pa_nil)))
      (pe_one (pe_not (pe_callB call_isi (by rfl) T.isi (by decide +kernel) (pa_cons (pv 0) (pa_cons (pe_bltn (v := .ty "bool") (by rfl) T.bool (by decide +kernel) rfl) pa_nil)))))))), ?_⟩
    rcases hv with ⟨rfl, i, rfl⟩ | ⟨rfl, ⟨c, rfl⟩ | ⟨t, ht, kt⟩⟩
    · exact ⟨_, rfl, _, _, _, _, true, rfl, .ty _, ty_int i, kit_ty (by decide +kernel), true, rfl, iteT ⟨_, rfl, _, _, _, _, false, rfl, .ty _, ty_int i, kit_ty (by decide +kernel), false, rfl, k⟩⟩
    · exact ⟨_, rfl, _, _, _, _, true, rfl, .ty _, ty_bl c, kit_ty (by decide +kernel), true, rfl, iteT ⟨_, rfl, _, _, _, _, true, rfl, .ty _, ty_bl c, kit_ty (by decide +kernel), true, rfl, k⟩⟩
    · exact ⟨_, rfl, _, _, _, _, false, rfl, .ty _, ht, kit_ty kt, false, rfl, iteF k⟩
/-! messages -/
structure TxtC1 (K : PySem.W.Frag) (C : Addr) : Prop where
  cl : Cls K C
  nK : NoAttr K C "key"
  ha : PySem.W.findIn K (.ref C) "__class__" = some (some (.builtin "object.__class__"))
  hn : PySem.W.specialIn K (.builtin "object.__class__") "__get__" = some (some (.builtin "getset_descriptor.__get__"))
  ht : PySem.W.takesIn K (.builtin "object.__class__") = some true
  hm : PySem.W.mroIn K C (.type "object") = some true
def clsOf (CP CC CT : Addr) (z : Str) : Addr := if z = "put" then CP else if z = "change" then CC else CT
/-- a message, made since N -/
def Msg (CP CC CT : Addr) (N H : Hp) (m : Addr) (z : Str) (key : Int) (kvs : List (Key × V)) : Prop := N m = none ∧ ((z = "take" ∧ kvs = [] ∧ ∃ dx, H m = some (.ins CT dx [("key", .int key)])) ∨
  ((z = "put" ∨ z = "change") ∧ ∃ dx d, N d = none ∧ H m = some (.ins (clsOf CP CC CT z) dx [("key", .int key), ("_cells", .ref d)]) ∧ H d = some (.dK kvs)))
theorem Msg.same {CP CC CT : Addr} {N H G : Hp} {m : Addr} {z : Str} {key : Int} {kvs : List (Key × V)} (s : Same H G) (h : Msg CP CC CT N H m z key kvs) : Msg CP CC CT N G m z key kvs := by
  obtain ⟨n, h | ⟨hz, dx, d, nd, h1, h2⟩⟩ := h
  · obtain ⟨e1, e2, dx, h1⟩ := h
    exact ⟨n, .inl ⟨e1, e2, dx, s _ _ h1⟩⟩
  · exact ⟨n, .inr ⟨hz, dx, d, nd, s _ _ h1, s _ _ h2⟩⟩
theorem Msg.old {CP CC CT : Addr} {N M H : Hp} {m : Addr} {z : Str} {key : Int} {kvs : List (Key × V)} (s : Same M N) (h : Msg CP CC CT N H m z key kvs) : Msg CP CC CT M H m z key kvs := by
  obtain ⟨n, h | ⟨hz, dx, d, nd, h1, h2⟩⟩ := h
  · exact ⟨none_of_same s n, .inl h⟩
  · exact ⟨none_of_same s n, .inr ⟨hz, dx, d, none_of_same s nd, h1, h2⟩⟩
theorem Msg.upd {CP CC CT : Addr} {N H : Hp} {m : Addr} {z : Str} {key : Int} {kvs : List (Key × V)} {a : Addr} {o o2 : HO} (n : N a = some o) (h : Msg CP CC CT N H m z key kvs) : Msg CP CC CT N (upd H a o2) m z key kvs := by
  obtain ⟨nm, h | ⟨hz, dx, d, nd, h1, h2⟩⟩ := h
  · obtain ⟨e1, e2, dx, h1⟩ := h
    exact ⟨nm, .inl ⟨e1, e2, dx, by rw [upd_ne (ne_of_none n nm).symm]; exact h1⟩⟩
  · exact ⟨nm, .inr ⟨hz, dx, d, nd, by rw [upd_ne (ne_of_none n nm).symm]; exact h1, by rw [upd_ne (ne_of_none n nd).symm]; exact h2⟩⟩
def spMI (C : Addr) : Sp := fun vs H Q _ => ∃ (p dx c : Addr) (key : Int) (kvs : List (Key × V)), vs = [.ref p, .int key, .ref c] ∧ H p = some (.ins C dx []) ∧ H c = some (.dK kvs) ∧
  ∀ d, H d = none → Q .non (upd (upd (upd H p (.ins C dx [("key", .int key)])) d (.dK kvs)) p (.ins C dx [("key", .int key), ("_cells", .ref d)]))
theorem scPutI : FnScope ["self", "key", "cells"] ["self", "key", "cells"] (defScope sPutI) := ⟨rfl, rfl, rfl, by decide +kernel, rfl, by decide +kernel, by decide +kernel⟩
theorem ok_putI {C f : Addr} {fd : FuncData} (F : MethD K "__init__" "Put.__init__" sPutI f fd) (T : TxtC1 K C) (nC : NoAttr K C "_cells") (hd : mg "dict" = none) : FnOk P w K mg base CX0 1 f fd ["self", "key", "cells"] (spMI C) := by
  refine F.ok scPutI (fun vs H Q E h => ?_) (fun cdv A outer s H vs Q E hr h => ?_)
  · obtain ⟨p, dx, c, key, kvs, rfl, _⟩ := h
    rfl
  · obtain ⟨p, dx, c, key, kvs, rfl, hp, hc, k⟩ := h
    refine ⟨_, PSs.nox (pss_cons (ps_fld (pv 0) (pv 1) rfl) (pss_one (ps_fld (pv 0) (pe_callTy call_dictD (by rfl) hd (by decide +kernel) (pa_cons (pv 2) pa_nil)) rfl))), ?_⟩
    have ne : c ≠ p := fun z => by subst z; rw [hp] at hc; cases hc
    refine ⟨_, rfl, _, rfl, p, C, dx, _, rfl, hp, T.cl, T.nK, (by show 0 < 1000; decide), ?_⟩
    refine ⟨_, rfl, c, kvs, rfl, .inl (by rw [upd_ne ne]; exact hc), fun d nd => ?_⟩
    have ndp : d ≠ p := fun z => by subst z; rw [upd_same] at nd; cases nd
    refine ⟨_, rfl, p, C, dx, _, rfl, (by rw [upd_ne ndp.symm]; exact upd_same), T.cl, nC, (by show 1 < 1000; decide), ?_⟩
    rw [upd_ne ndp] at nd
    exact k d nd
theorem scChgI : FnScope ["self", "key", "cells"] ["self", "key", "cells"] (defScope sChgI) := ⟨rfl, rfl, rfl, by decide +kernel, rfl, by decide +kernel, by decide +kernel⟩
theorem ok_chgI {C f : Addr} {fd : FuncData} (F : MethD K "__init__" "Change.__init__" sChgI f fd) (T : TxtC1 K C) (nC : NoAttr K C "_cells") (hd : mg "dict" = none) : FnOk P w K mg base CX0 1 f fd ["self", "key", "cells"] (spMI C) := by
  refine F.ok scChgI (fun vs H Q E h => ?_) (fun cdv A outer s H vs Q E hr h => ?_)
  · obtain ⟨p, dx, c, key, kvs, rfl, _⟩ := h
    rfl
  · obtain ⟨p, dx, c, key, kvs, rfl, hp, hc, k⟩ := h
    refine ⟨_, PSs.nox (pss_cons (ps_fld (pv 0) (pv 1) rfl) (pss_one (ps_fld (pv 0) (pe_callTy call_dictD (by rfl) hd (by decide +kernel) (pa_cons (pv 2) pa_nil)) rfl))), ?_⟩
    have ne : c ≠ p := fun z => by subst z; rw [hp] at hc; cases hc
    refine ⟨_, rfl, _, rfl, p, C, dx, _, rfl, hp, T.cl, T.nK, (by show 0 < 1000; decide), ?_⟩
    refine ⟨_, rfl, c, kvs, rfl, .inl (by rw [upd_ne ne]; exact hc), fun d nd => ?_⟩
    have ndp : d ≠ p := fun z => by subst z; rw [upd_same] at nd; cases nd
    refine ⟨_, rfl, p, C, dx, _, rfl, (by rw [upd_ne ndp.symm]; exact upd_same), T.cl, nC, (by show 1 < 1000; decide), ?_⟩
    rw [upd_ne ndp] at nd
    exact k d nd
theorem scTakeI : FnScope ["self", "key"] ["self", "key"] (defScope sTakeI) := ⟨rfl, rfl, rfl, by decide +kernel, rfl, by decide +kernel, by decide +kernel⟩
def spTI (C : Addr) : Sp := fun vs H Q _ => ∃ (p dx : Addr) (key : Int), vs = [.ref p, .int key] ∧ H p = some (.ins C dx []) ∧ Q .non (upd H p (.ins C dx [("key", .int key)]))
theorem ok_takeI {C f : Addr} {fd : FuncData} (F : MethD K "__init__" "Take.__init__" sTakeI f fd) (T : TxtC1 K C) : FnOk P w K mg base CX0 1 f fd ["self", "key"] (spTI C) := by
  refine F.ok scTakeI (fun vs H Q E h => ?_) (fun cdv A outer s H vs Q E hr h => ?_)
  · obtain ⟨p, dx, key, rfl, _⟩ := h
    rfl
  · obtain ⟨p, dx, key, rfl, hp, k⟩ := h
    refine ⟨_, PSs.nox (pss_one (ps_fld (pv 0) (pv 1) rfl)), ?_⟩
    exact ⟨_, rfl, _, rfl, p, C, dx, _, rfl, hp, T.cl, T.nK, (by show 0 < 1000; decide), k⟩
/-! the cells of a message -/
def spCel (C : Addr) : Sp := fun vs H Q _ => ∃ (p dx d : Addr) (key : Int) (kvs : List (Key × V)), vs = [.ref p] ∧ H p = some (.ins C dx [("key", .int key), ("_cells", .ref d)]) ∧ H d = some (.dK kvs) ∧ ∀ q, H q = none → Q (.ref q) (upd H q (.dK kvs))
def spCel0 : Sp := fun vs H Q _ => ∃ (p : Addr), vs = [.ref p] ∧ ∀ q, H q = none → Q (.ref q) (upd H q (.dK []))
theorem scPutC : FnScope ["self"] ["self"] (defScope sPutC) := ⟨rfl, rfl, rfl, by decide +kernel, rfl, by decide +kernel, by decide +kernel⟩
theorem ok_putC {C f : Addr} {fd : FuncData} (F : MethD K "cells" "Put.cells" sPutC f fd) (T : TxtC1 K C) (nC : NoAttr K C "_cells") (hd : mg "dict" = none) : FnOk P w K mg base CX0 1 f fd ["self"] (spCel C) := by
  refine F.ok scPutC (fun vs H Q E h => ?_) (fun cdv A outer s H vs Q E hr h => ?_)
  · obtain ⟨p, dx, d, key, kvs, rfl, _⟩ := h
    rfl
  · obtain ⟨p, dx, d, key, kvs, rfl, hp, hc, k⟩ := h
    refine ⟨_, PSs.nox (pss_one (ps_ret (pe_callTy call_dictD (by rfl) hd (by decide +kernel) (pa_cons (pe_fld (pv 0) (by rfl)) pa_nil)))), ?_⟩
    exact ⟨_, rfl, p, C, dx, _, .ref d, rfl, hp, T.cl, nC, rfl, d, kvs, rfl, .inl hc, fun q nq => k q nq⟩
theorem scChgC : FnScope ["self"] ["self"] (defScope sChgC) := ⟨rfl, rfl, rfl, by decide +kernel, rfl, by decide +kernel, by decide +kernel⟩
theorem ok_chgC {C f : Addr} {fd : FuncData} (F : MethD K "cells" "Change.cells" sChgC f fd) (T : TxtC1 K C) (nC : NoAttr K C "_cells") (hd : mg "dict" = none) : FnOk P w K mg base CX0 1 f fd ["self"] (spCel C) := by
  refine F.ok scChgC (fun vs H Q E h => ?_) (fun cdv A outer s H vs Q E hr h => ?_)
  · obtain ⟨p, dx, d, key, kvs, rfl, _⟩ := h
    rfl
  · obtain ⟨p, dx, d, key, kvs, rfl, hp, hc, k⟩ := h
    refine ⟨_, PSs.nox (pss_one (ps_ret (pe_callTy call_dictD (by rfl) hd (by decide +kernel) (pa_cons (pe_fld (pv 0) (by rfl)) pa_nil)))), ?_⟩
    exact ⟨_, rfl, p, C, dx, _, .ref d, rfl, hp, T.cl, nC, rfl, d, kvs, rfl, .inl hc, fun q nq => k q nq⟩
theorem scTakeC : FnScope ["self"] ["self"] (defScope sTakeC) := ⟨rfl, rfl, rfl, by decide +kernel, rfl, by decide +kernel, by decide +kernel⟩
theorem ok_takeC {f : Addr} {fd : FuncData} (F : MethD K "cells" "Take.cells" sTakeC f fd) : FnOk P w K mg base CX0 1 f fd ["self"] spCel0 := by
  refine F.ok scTakeC (fun vs H Q E h => ?_) (fun cdv A outer s H vs Q E hr h => ?_)
  · obtain ⟨p, rfl, _⟩ := h
    rfl
  · obtain ⟨p, rfl, k⟩ := h
    refine ⟨_, PSs.nox (pss_one (ps_ret pe_dnewK)), ?_⟩
    exact fun q nq => k q nq
/-- Put(key, cells) and Change(key, cells), made -/
theorem msg_new {CP CC CT c : Addr} {z : Str} {key : Int} {kvs : List (Key × V)} {H : Hp} {R : Addr → Hp → Prop} {E : XK} (hz : z = "put" ∨ z = "change") (hc : H c = some (.dK kvs)) (k : ∀ p G, H p = none → Same H G → Msg CP CC CT H G p z key kvs → R p G) :
    ∀ x dx, H x = none → H dx = none → dx ≠ x → spMI (clsOf CP CC CT z) [.ref x, .int key, .ref c] (upd (upd H dx (.own x)) x (.ins (clsOf CP CC CT z) dx [])) (fun v H2 => v = .non ∧ R x H2) E := fun x dx nx nd ne => by
  refine ⟨x, dx, c, key, kvs, rfl, upd_same, by rw [upd_ne (ne_of_none hc nx), upd_ne (ne_of_none hc nd)]; exact hc, fun d hd => ⟨rfl, ?_⟩⟩
  have dx' : d ≠ x := fun z => by subst z; rw [upd_same] at hd; cases hd
  have ndd : H d = none := by
    rw [upd_ne dx'] at hd
    cases e : H d with
    | none => rfl
    | some o => rw [upd_ne (ne_of_none e nd)] at hd; rw [e] at hd; cases hd
  have s : Same H (upd (upd (upd (upd (upd H dx (.own x)) x (.ins (clsOf CP CC CT z) dx [])) x (.ins (clsOf CP CC CT z) dx [("key", .int key)])) d (.dK kvs)) x (.ins (clsOf CP CC CT z) dx [("key", .int key), ("_cells", .ref d)])) :=
    same_at nx (same_at ndd (same_at nx (same_at nx (same_at nd (Same.refl H)))))
  exact k x _ nx s ⟨nx, .inr ⟨hz, dx, d, ndd, upd_same, by rw [upd_ne dx', upd_same]⟩⟩
theorem take_new {CP CC CT : Addr} {key : Int} {H : Hp} {R : Addr → Hp → Prop} {E : XK} (k : ∀ p G, H p = none → Same H G → Msg CP CC CT H G p "take" key [] → R p G) :
    ∀ x dx, H x = none → H dx = none → dx ≠ x → spTI CT [.ref x, .int key] (upd (upd H dx (.own x)) x (.ins CT dx [])) (fun v H2 => v = .non ∧ R x H2) E := fun x dx nx nd ne =>
  ⟨x, dx, key, rfl, upd_same, rfl, k x _ nx (same_at nx (same_at nx (same_at nd (Same.refl H)))) ⟨nx, .inl ⟨rfl, rfl, dx, upd_same⟩⟩⟩
end
end Lw

set_option Elab.async false
set_option linter.all false
set_option maxRecDepth 100000
set_option maxHeartbeats 4000000
namespace Lw
open PySem PySem.Spec PyProof.Rows L2

abbrev sIsRow : Stmt := top 13
abbrev sCells : Stmt := top 15
section
variable {P : Program} {w : World} {K : PySem.W.Frag} {mg : Str → Option Value} {base : Heap}
/-! two rows with the same cells -/
structure TxtR (mg : Str → Option Value) : Prop where
  P : TxtQ mg
  sorted : mg "sorted" = none
def RowEq (kvs kvs2 : List (Key × V)) : Prop := RowOk kvs ∧ RowOk kvs2 ∧ (kvs.map (·.1)).Perm (kvs2.map (·.1)) ∧ ∀ p ∈ kvs2, valV kvs p.1 = some p.2
theorem RowEq.refl {kvs : List (Key × V)} (h : RowOk kvs) : RowEq kvs kvs := ⟨h, h, List.Perm.refl _, valV_mem h.nodup⟩
def spIsRow : Sp := fun vs H Q _ => ∃ (v1 v2 : V), vs = [v1, v2] ∧ ((v1 = .non ∧ v2 = .non) ∨ ∃ d1 d2 kvs1 kvs2, v1 = .ref d1 ∧ v2 = .ref d2 ∧ H d1 = some (.dK kvs1) ∧ H d2 = some (.dK kvs2) ∧ RowEq kvs1 kvs2) ∧ ∀ G, Same H G → Q (.bl true) G
theorem keys_strs {kvs : List (Key × V)} {ks : List Str} (h : kvs.map (·.1) = ks.map Sum.inr) : (kvs.map fun kv => kV kv.1) = ks.map V.str := by
  have e := congrArg (List.map kV) h
  rw [List.map_map, List.map_map] at e
  exact e
theorem dp_strs {H : Hp} : ∀ ks : List Str, DpAll K H (ks.map V.str) (ks.map PyData.str)
  | [] => .nil
  | z :: r => .cons (.str z) (dp_strs r)
theorem perm_inr {xs ys : List Str} (h : (xs.map (Sum.inr : Str → Key)).Perm (ys.map Sum.inr)) : xs.Perm ys := by
  have z := h.filterMap fun k : Key => match k with
    | .inr z => some z
    | .inl _ => none
  rw [List.filterMap_map, List.filterMap_map] at z
  have e : ∀ l : List Str, l.filterMap ((fun k : Key => match k with
    | .inr z => some z
    | .inl _ => none) ∘ Sum.inr) = l := fun l => by
    induction l with
    | nil => rfl
    | cons x r ih =>
      show x :: _ = _
      rw [ih]
  rw [e, e] at z
  exact z
theorem scIsRow : FnScope ["told", "due", "name"] ["told", "due"] (defScope sIsRow) := ⟨rfl, rfl, rfl, by decide +kernel, rfl, by decide +kernel, by decide +kernel⟩
theorem ok_isRow {f : Addr} {fd : FuncData} (F : FnP K "_law_is_row" sIsRow f fd) (T : TxtR mg) (cI : Cal P w K mg base CX0 "_law_is_integer" 1 ["value"] (spIsInteger K)) : FnOk P w K mg base CX0 2 f fd ["told", "due"] spIsRow := by
  refine F.ok scIsRow (fun vs H Q E h => ?_) (fun cdv A outer s H vs Q E hr h => ?_)
  · obtain ⟨v1, v2, rfl, _⟩ := h
    rfl
  · obtain ⟨v1, v2, rfl, hv, k⟩ := h
    have nd := scIsRow.nd
    have hu := hu_of hr
    refine ⟨_, PSs.nox (pss_cons (ps_if (PW.pt (pw_or (pt_cmpR op_isN (pv 1) pe_non (nomark _)) (pw_or1 (pt_cmpR op_isN (pv 0) pe_non (nomark _))))) (pss_one (ps_ret (pe_and (pe_cmpR op_isN (pv 0) pe_non (nomark _)) (pe_one (pe_cmpR op_isN (pv 1) pe_non (nomark _)))))) pss_nil)
      (pss_cons (ps_if (PW.pt (pw_or (pt_not (pt_val (pe_callB call_isi (by rfl) T.P.isi (by decide +kernel) (pa_cons (pv 0) (pa_cons (pe_bltn (v := .ty "dict") (by rfl) T.P.dict (by decide +kernel) rfl) pa_nil))))) (pw_or1 (pt_cmpR (op_neD hr.units)
          (pe_callB cr_sortedS (by rfl) T.sorted (by decide +kernel) (pa_cons (Lk.pe_listKeys rfl (pv 0) (by rfl) T.P.list (by decide +kernel)) pa_nil)) (pe_callB cr_sortedS (by rfl) T.sorted (by decide +kernel) (pa_cons (Lk.pe_listKeys rfl (pv 1) (by rfl) T.P.list (by decide +kernel)) pa_nil)) (nomark _))))) (pss_one (ps_ret pe_bl)) pss_nil)
      (pss_cons (ps_lock (ps_for PassesOwn.never rfl (pi_keys (pv 1)) (pg_name (i := 2) nd rfl (Or.inl rfl))
        (pss_one (ps_if (PW.pt (pw_or (PW.pt (pw_and (pt_cmpR op_notN (pe_dget hu (pv 0) (pv 2) (fun _ _ => rfl)) pe_non (nomark _)) (pw_and1 (pt_not (pt_val (pe_cal cI hr (pa_cons (pe_dget hu (pv 0) (pv 2) (fun _ _ => rfl)) pa_nil)))))))
          (pw_or1 (pt_cmpR op_ne (pe_dget hu (pv 0) (pv 2) (fun _ _ => rfl)) (pe_dget hu (pv 1) (pv 2) (fun _ _ => rfl)) (nomark _))))) (pss_one (ps_ret pe_bl)) pss_nil))))
      (pss_one (ps_ret pe_bl))))), ?_⟩
    rcases hv with ⟨rfl, rfl⟩ | ⟨d1, d2, kvs1, kvs2, rfl, rfl, h1, h2, ⟨r1, r2, pm, vl⟩⟩
    · refine ⟨_, rfl, rfl, _, rfl, it_bt rfl ?_⟩
      exact ⟨_, rfl, rfl, _, rfl, it_bt rfl ⟨_, rfl, rfl, k H (Same.refl H)⟩⟩
    obtain ⟨⟨ks1, e1, n1, w1⟩, i1, l1⟩ := r1
    obtain ⟨⟨ks2, e2, n2, w2⟩, i2, l2⟩ := r2
    refine ⟨_, rfl, rfl, _, rfl, it_bf rfl ?_⟩
    refine ⟨_, rfl, rfl, _, rfl, it_bf rfl ?_⟩
    dsimp only [tNext]
    refine sq_if1 (fun b G => Same H G ∧ b = false) (fun Q q => ?_) ?_ ?_
    · refine ⟨_, rfl, _, _, _, _, true, rfl, .ty _, .base (.dK h1), kit_ty (by decide +kernel), true, rfl, it_bf rfl ?_⟩
      refine ⟨_, rfl, d1, kvs1, rfl, h1, fun p1 np1 => ⟨p1, ks1, rfl, SqL.of (by rw [upd_same, keys_strs e1]), ?_, fun ys1 q1 pm1 so1 nq1 => ?_⟩⟩
      · have := congrArg List.length e1
        simp only [List.length_map] at this
        omega
      have s1 := (Lw.Same.new (o := .lst (kvs1.map fun kv => kV kv.1)) (Same.refl H) np1).trans (Lw.Same.new (o := .lst (ys1.map V.str)) (Same.refl _) nq1)
      refine ⟨_, rfl, d2, kvs2, rfl, s1 _ _ h2, fun p2 np2 => ⟨p2, ks2, rfl, SqL.of (by rw [upd_same, keys_strs e2]), ?_, fun ys2 q2 pm2 so2 nq2 => ?_⟩⟩
      · have := congrArg List.length e2
        simp only [List.length_map] at this
        omega
      have s2 := (Lw.Same.new (o := .lst (kvs2.map fun kv => kV kv.1)) (Same.refl _) np2).trans (Lw.Same.new (o := .lst (ys2.map V.str)) (Same.refl _) nq2)
      have pk : ks1.Perm ks2 := by
        rw [e1, e2] at pm
        exact perm_inr pm
      have ey : ys1 = ys2 := sorted_one so1 so2 (pm1.trans (pk.trans pm2.symm))
      subst ey
      have hw : ∀ z ∈ ys1, IsWord z := fun z hz => w1 z (pm1.mem_iff.mp hz)
      refine ⟨.list (ys1.map PyData.str), .list (ys1.map PyData.str), .lst (SqL.of (s2 _ _ upd_same)) (dp_strs _), .lst (SqL.of upd_same) (dp_strs _), shaped_strs _ hw, shaped_strs _ hw, _, rfl, ?_⟩
      rw [eqv_strs hw]
      exact q _ _ ⟨s1.trans s2, rfl⟩
    · rintro G ⟨_, h⟩
      cases h
    rintro G ⟨sG, _⟩
    have g1 := sG _ _ h1
    have g2 := sG _ _ h2
    refine ⟨d2, _, g2, trivial, fun od => ?_⟩
    have hback : Same H (upd (upd G d2 (.frz od (.dK kvs2))) d2 (.dK kvs2)) := fun b o h => by
      by_cases e : b = d2
      · subst e
        rw [h2] at h
        cases h
        exact upd_same
      · rw [upd_ne e, upd_ne e]
        exact sG b o h
    have hg1 : Rd (upd G d2 (.frz od (.dK kvs2))) d1 (.dK kvs1) := by
      by_cases e : d1 = d2
      · subst e
        rw [h1] at h2
        cases h2
        exact .inr ⟨od, upd_same⟩
      · exact .inl (by rw [upd_ne e]; exact g1)
    have hg2 : Rd (upd G d2 (.frz od (.dK kvs2))) d2 (.dK kvs2) := .inr ⟨od, upd_same⟩
    have hfz : (upd G d2 (.frz od (.dK kvs2))) d2 = some (.frz od (.dK kvs2)) := upd_same
    refine ⟨_, rfl, d2, od, rfl, .inl ⟨kvs2, upd_same, ?_⟩⟩
    generalize upd G d2 (.frz od (.dK kvs2)) = G2 at hback hg1 hg2 hfz ⊢
    refine for_it walk_keys (fun i σ G' => G2 = G' ∧ ∃ v : Option V, σ = [some (.ref d1), some (.ref d2), v]) ⟨rfl, _, rfl⟩ (fun i σ G' _ ⟨e, _⟩ => e ▸ hfz) ?_ ?_
    · rintro i x σ G' G'' hi ⟨rfl, v0, rfl⟩ ⟨rfl, key, v, hkv, rfl⟩
      have hm := List.mem_of_getElem? hkv
      have hv1 : valV kvs1 key = some v := vl (key, v) hm
      have hv2 : valV kvs2 key = some v := valV_mem (RowOk.nodup ⟨⟨ks2, e2, n2, w2⟩, i2, l2⟩) (key, v) hm
      have hN : IntN v := i2 (key, v) hm
      have D1 : DGet G'' d1 (kV key) (some v) := .inl ⟨kvs1, key, hg1, rfl, hv1.symm⟩
      have D2 : DGet G'' d2 (kV key) (some v) := .inl ⟨kvs2, key, hg2, rfl, hv2.symm⟩
      refine g_name ?_
      have last : (∀ A B : Prop, B → if (!decide (v = v)) = true then A else B) := fun A B b => it_bf (by simp) b
      refine ⟨_, rfl, _, rfl, d1, v, rfl, D1, rfl, _, rfl, ?_⟩
      rcases hN with ⟨z, rfl⟩ | rfl
      · refine it_bt rfl ⟨_, rfl, _, rfl, d1, _, rfl, D1, _, true, rfl, .inl ⟨rfl, z, rfl⟩, _, rfl, ?_⟩
        refine it_bf rfl ?_
        exact ⟨_, rfl, _, rfl, d1, _, rfl, D1, _, rfl, _, rfl, d2, _, rfl, D2, rfl, _, rfl, it_bf (by simp) ⟨rfl, _, rfl⟩⟩
      · refine it_bf rfl ?_
        exact ⟨_, rfl, _, rfl, d1, _, rfl, D1, _, rfl, _, rfl, d2, _, rfl, D2, rfl, _, rfl, it_bf (by simp) ⟨rfl, _, rfl⟩⟩
    · rintro σ G' ⟨rfl, v0, rfl⟩
      exact ⟨hfz, k _ hback⟩
/-! cells drawn for some names -/
theorem putK_new {kvs : List (Key × V)} {k : Key} {v : V} (h : k ∉ kvs.map (·.1)) : putK kvs k v = kvs ++ [(k, v)] := by
  unfold putK
  rw [if_neg]
  intro e
  obtain ⟨p, hp, e2⟩ := List.any_eq_true.mp e
  exact h (List.mem_map.mpr ⟨p, hp, of_decide_eq_true e2⟩)
theorem RowOk.snoc {kvs : List (Key × V)} {z : Str} {v : V} (h : RowOk kvs) (n : (Sum.inr z : Key) ∉ kvs.map (·.1)) (hz : IsWord z) (hv : IntN v) (l : kvs.length < 60) : RowOk (kvs ++ [(.inr z, v)]) := by
  obtain ⟨⟨ks, e, nd, w⟩, i, _⟩ := h
  refine ⟨⟨ks ++ [z], by rw [List.map_append, List.map_append, e]; rfl, ?_, fun y hy => ?_⟩, fun p hp => ?_, by rw [List.length_append]; show kvs.length + 1 ≤ 60; omega⟩
  · refine List.nodup_append.mpr ⟨nd, by simp, fun x hx y hy => ?_⟩
    rw [List.mem_singleton.mp hy]
    rintro rfl
    exact n (by rw [e]; exact List.mem_map.mpr ⟨x, hx, rfl⟩)
  · rcases List.mem_append.mp hy with m | m
    · exact w y m
    · rw [List.mem_singleton.mp m]; exact hz
  · rcases List.mem_append.mp hp with m | m
    · exact i p m
    · rw [List.mem_singleton.mp m]; exact hv
theorem RowOk.nil : RowOk [] := ⟨⟨[], rfl, List.nodup_nil, fun _ h => (List.not_mem_nil h).elim⟩, fun _ h => (List.not_mem_nil h).elim, Nat.zero_le _⟩
def spCells : Sp := fun vs H Q _ => ∃ (a l : Addr) (n : Nat) (ws : List Str), vs = [.ref a, .ref l] ∧ Src H a n ∧ n ≤ 700000000 ∧ H l = some (.lst (ws.map V.str)) ∧ ws.Nodup ∧ (∀ z ∈ ws, IsWord z) ∧ ws.length ≤ 8 ∧
  ∀ d kvs G, H d = none → Keep a H G → Src G a (n + 24) → G d = some (.dK kvs) → RowOk kvs → (∀ k ∈ kvs.map (·.1), ∃ z ∈ ws, k = Sum.inr z) → Q (.ref d) G
theorem scCells : FnScope ["source", "names", "found", "name", "kind"] ["source", "names"] (defScope sCells) := ⟨rfl, rfl, rfl, by decide +kernel, rfl, by decide +kernel, by decide +kernel⟩
theorem ok_cells {f : Addr} {fd : FuncData} (F : FnP K "_law_cells" sCells f fd) (cD : Cal P w K mg base CX0 "_law_draw" 1 ["source", "many"] spDrawW) (cN : Cal P w K mg base CX0 "_law_number" 2 ["source", "limit"] spNumL) : FnOk P w K mg base CX0 3 f fd ["source", "names"] spCells := by
  refine F.ok scCells (fun vs H Q E h => ?_) (fun cdv A outer s H vs Q E hr h => ?_)
  · obtain ⟨a, l, n, ws, rfl, _⟩ := h
    rfl
  · obtain ⟨a, l, n, ws, rfl, hs, hn, hl, nw, ww, lw, k⟩ := h
    have nd := scCells.nd
    have h1 : Room 1 _ := hr.mono (by decide)
    have hu := hu_of hr
    have h9 : sizeLine = 16777216 := by decide
    refine ⟨_, PSs.nox (pss_cons (ps_set (i := 2) nd rfl (Or.inl rfl) pe_dnewK)
      (pss_cons (ps_for PassesOwn.never rfl (pi_list (pv 1)) (pg_name (i := 3) nd rfl (Or.inl rfl))
        (pss_cons (ps_set (i := 4) nd rfl (Or.inl rfl) (pe_cal cD h1 (pa_cons (pv 0) (pa_cons pe_int pa_nil))))
        (pss_one (ps_if (pt_cmpR op_lt (pv 4) pe_int (nomark _)) (pss_one (ps_dput hu (pv 2) (pv 3) (pe_cal cN hr (pa_cons (pv 0) (pa_cons (pe_op op_pow pe_int pe_int) pa_nil))) rfl))
          (pss_one (ps_if (pt_cmpR op_eq (pv 4) pe_int (nomark _)) (pss_one (ps_dput hu (pv 2) (pv 3) pe_non rfl)) pss_nil))))))
      (pss_one (ps_ret (pv 2))))), ?_⟩
    refine sq_set (fun x G => ∃ d, x = .ref d ∧ H d = none ∧ G = upd H d (.dK [])) (fun Q q => fun d nd => q _ _ ⟨d, rfl, nd, rfl⟩) ?_
    rintro _ _ ⟨d, rfl, ndd, rfl⟩
    have la : l ≠ a := src_ne_strs hs hl
    have da : d ≠ a := hs.ne ndd
    have ld : l ≠ d := ne_of_none hl ndd
    have hl1 : (upd H d (.dK [])) l = some (.lst (ws.map V.str)) := by rw [upd_ne ld]; exact hl
    refine ⟨_, rfl, l, rfl, ⟨_, SqL.of hl1⟩, ?_⟩
    refine for_list (xs := ws.map V.str) (fun j σ G => ∃ (v3 v4 : Option V) (kvs : List (Key × V)), σ = [some (.ref a), some (.ref l), some (.ref d), v3, v4] ∧ Keep a H G ∧ Src G a (n + 3 * j) ∧ G l = some (.lst (ws.map V.str)) ∧ G d = some (.dK kvs) ∧ RowOk kvs ∧ kvs.length ≤ j ∧ ∀ key ∈ kvs.map (·.1), ∃ z ∈ ws.take j, key = Sum.inr z)
      ⟨_, _, [], rfl, (Keep.refl H).new ndd, hs.new ndd, hl1, upd_same, RowOk.nil, Nat.le_refl _, fun _ h => (List.not_mem_nil h).elim⟩ (fun j σ G _ ⟨_, _, _, _, _, _, h, _⟩ => SqL.of h) ?_ ?_
    · rintro j x σ G hx ⟨v3, v4, kvs, rfl, kG, sG, gl, gd, rk, lk, mk⟩
      rw [List.getElem?_map] at hx
      obtain ⟨z, hz, rfl⟩ := Option.map_eq_some_iff.mp hx
      have hj : j < ws.length := (List.getElem?_eq_some_iff.mp hz).1
      have hzw : z ∈ ws := List.mem_of_getElem? hz
      have ht : ws.take (j + 1) = ws.take j ++ [z] := by rw [List.take_add_one, hz]; rfl
      have nz : z ∉ ws.take j := fun m => by
        have nw2 : (ws.take j ++ ws.drop j).Nodup := by rw [List.take_append_drop]; exact nw
        have hd := List.drop_eq_getElem_cons hj
        rw [(List.getElem?_eq_some_iff.mp hz).2] at hd
        exact (List.nodup_append.mp nw2).2.2 z m z (by rw [hd]; exact List.mem_cons_self) rfl
      have nk : (Sum.inr z : Key) ∉ kvs.map (·.1) := fun m => by
        obtain ⟨y, hy, e⟩ := mk _ m
        cases e
        exact nz hy
      have up : ∀ key ∈ kvs.map (·.1), ∃ y ∈ ws.take (j + 1), key = Sum.inr y := fun key m => by
        obtain ⟨y, hy, e⟩ := mk key m
        exact ⟨y, by rw [ht]; exact List.mem_append_left _ hy, e⟩
      have up2 : ∀ (v : V), ∀ key ∈ (kvs ++ [((Sum.inr z : Key), v)]).map (·.1), ∃ y ∈ ws.take (j + 1), key = Sum.inr y := fun v key m => by
        rw [List.map_append] at m
        rcases List.mem_append.mp m with m | m
        · exact up key m
        · exact ⟨z, by rw [ht]; simp, by simpa using m⟩
      refine g_name ?_
      refine sq_set (fun x G1 => ∃ kind : Int, x = .int kind ∧ Keep a G G1 ∧ Src G1 a (n + 3 * j + 1)) (fun Q q => ⟨_, rfl, a, _, _, rfl, sG, by omega, by decide, by decide, fun G1 i k1 s1 _ _ => q _ _ ⟨i, rfl, k1, s1⟩⟩) ?_
      rintro _ G1 ⟨kind, rfl, k1, s1⟩
      have put : ∀ (G2 : Hp) (v : V), Keep a G1 G2 → Src G2 a (n + 3 * j + 3) → IntN v → ∃ (v3' v4' : Option V) (kvs' : List (Key × V)), [some (V.ref a), some (.ref l), some (.ref d), some (.str z), some (.int kind)] = [some (.ref a), some (.ref l), some (.ref d), v3', v4'] ∧ Keep a H (upd G2 d (.dK (putK kvs (.inr z) v))) ∧ Src (upd G2 d (.dK (putK kvs (.inr z) v))) a (n + 3 * (j + 1)) ∧ (upd G2 d (.dK (putK kvs (.inr z) v))) l = some (.lst (ws.map V.str)) ∧ (upd G2 d (.dK (putK kvs (.inr z) v))) d = some (.dK kvs') ∧ RowOk kvs' ∧ kvs'.length ≤ j + 1 ∧ ∀ key ∈ kvs'.map (·.1), ∃ y ∈ ws.take (j + 1), key = Sum.inr y := fun G2 v k2 s2 hv => by
        have gl2 := k2 _ _ la (k1 _ _ la gl)
        refine ⟨_, _, kvs ++ [(.inr z, v)], rfl, keep_at ndd (kG.trans (k1.trans k2)), ?_, by rw [upd_ne ld]; exact gl2, by rw [upd_same, putK_new nk], rk.snoc nk (ww z hzw) hv (by omega), by rw [List.length_append]; show kvs.length + 1 ≤ j + 1; omega, up2 v⟩
        obtain ⟨x1, x2, x3, y1, y2⟩ := s2.mono (show n + 3 * j + 3 ≤ n + 3 * (j + 1) by omega)
        exact ⟨x1, x2, x3, by rw [upd_ne da.symm]; exact y1, y2⟩
      refine ⟨_, rfl, _, _, rfl, rfl, _, rfl, ?_⟩
      refine bool_ite (fun _ => ?_) (fun _ => ?_)
      · refine ⟨_, rfl, _, _, rfl, rfl, ⟨by decide, by decide, by decide⟩, a, _, _, rfl, s1, by omega, by decide, by decide +kernel, fun G2 i k2 s2 => ?_⟩
        have gd2 := k2 _ _ da (k1 _ _ da gd)
        exact ⟨_, rfl, _, rfl, d, _, rfl, DPut.k (k := .inr z) gd2 (by omega), put G2 (.int i) k2 s2 (.inl ⟨i, rfl⟩)⟩
      · refine ⟨_, rfl, rfl, _, rfl, ?_⟩
        refine bool_ite (fun _ => ?_) (fun _ => ?_)
        · have gd2 := k1 _ _ da gd
          exact ⟨_, rfl, _, rfl, d, _, rfl, DPut.k (k := .inr z) gd2 (by omega), put G1 .non (fun _ _ _ h => h) (s1.mono (by omega)) (.inr rfl)⟩
        · exact ⟨_, _, kvs, rfl, kG.trans k1, s1.mono (by omega), k1 _ _ la gl, k1 _ _ da gd, rk, by omega, up⟩
    · rintro σ G ⟨v3, v4, kvs, rfl, kG, sG, gl, gd, rk, lk, mk⟩
      refine ⟨_, rfl, k d kvs G ndd kG (sG.mono (by simp only [List.length_map]; omega)) gd rk fun key m => ?_⟩
      obtain ⟨y, hy, e⟩ := mk key m
      exact ⟨y, List.mem_of_mem_take hy, e⟩
end
end Lw

set_option Elab.async false
set_option linter.all false
set_option maxRecDepth 100000
set_option maxHeartbeats 4000000
namespace Lw
open PySem PySem.Spec PyProof.Rows L2

abbrev sRight : Stmt := top 16
section
variable {P : Program} {w : World} {K : PySem.W.Frag} {mg : Str → Option Value} {base : Heap}
/-! what the law asks of one message -/
def deeds : List Str := ["put", "change", "take"]
structure ClsZ (K : PySem.W.Frag) (CP CC CT CM : Addr) (z : Str) : Prop where
  T : TxtC1 K (clsOf CP CC CT z)
  con : ∃ u, Con K (clsOf CP CC CT z) "deed" (.str z) u
  kM : PySem.W.kitOne K (.ref (clsOf CP CC CT z)) (.ref CM) = some true
  kP : PySem.W.kitOne K (.ref (clsOf CP CC CT z)) (.ref CP) = some (decide (z = "put"))
  kC : PySem.W.kitOne K (.ref (clsOf CP CC CT z)) (.ref CC) = some (decide (z = "change"))
  kT : PySem.W.kitOne K (.ref (clsOf CP CC CT z)) (.ref CT) = some (decide (z = "take"))
structure PrpF (P : Program) (w : World) (K : PySem.W.Frag) (mg : Str → Option Value) (base : Heap) (C : Addr) (sp : Sp) : Prop where
  cl : Cls K C
  ex : ∃ p g fd, PropOf K C "cells" p g ∧ FnOk P w K mg base CX0 1 g fd ["self"] sp ∧ Binds K fd ["self"] []
structure MsF (P : Program) (w : World) (K : PySem.W.Frag) (mg : Str → Option Value) (base : Heap) (CP CC CT CM : Addr) : Prop where
  one : ∀ z ∈ deeds, ClsZ K CP CC CT CM z
  pP : PrpF P w K mg base CP (spCel CP)
  pC : PrpF P w K mg base CC (spCel CC)
  pT : PrpF P w K mg base CT spCel0
  gM : mg "Message" = some (.ref CM)
  gP : mg "Put" = some (.ref CP)
  gC : mg "Change" = some (.ref CC)
  gT : mg "Take" = some (.ref CT)
theorem Msg.at {CP CC CT : Addr} {N H : Hp} {m : Addr} {z : Str} {key : Int} {kvs : List (Key × V)} (h : Msg CP CC CT N H m z key kvs) : z ∈ deeds ∧ ∃ dx fs, H m = some (.ins (clsOf CP CC CT z) dx (("key", .int key) :: fs)) ∧ (("key", .int key) :: fs : List (Str × V)).lookup ("deed" : Str) = none := by
  obtain ⟨n, h | ⟨hz, dx, d, nd, h1, h2⟩⟩ := h
  · obtain ⟨rfl, _, dx, h1⟩ := h
    exact ⟨by decide, dx, [], h1, rfl⟩
  · refine ⟨?_, dx, _, h1, rfl⟩
    rcases hz with rfl | rfl <;> decide
def spRight (CP CC CT : Addr) : Sp := fun vs H Q _ => ∃ (m c : Addr) (z : Str) (key : Int) (N : Hp) (kvs0 kvs : List (Key × V)), vs = [.ref m, .str z, .int key, .ref c] ∧ Msg CP CC CT N H m z key kvs0 ∧ H c = some (.dK kvs) ∧ RowOk kvs ∧ (z ≠ "take" → kvs0 = kvs) ∧ ∀ G, Same H G → Q (.bl true) G
/-- the cells of a message, read -/
def tCells (CP CC CT : Addr) (ta : TE) : TE := fun σ H Q => tProp CP (spCel CP) [] E0 ta σ H Q ∨ (tProp CC (spCel CC) [] E0 ta σ H Q ∨ tProp CT spCel0 [] E0 ta σ H Q)
theorem pe_cells {X : Cx} {CP CC CT CM : Addr} {e : Expr} {pos : Pos} {ta : TE} (M : MsF X.prog X.w X.K X.mg X.base CP CC CT CM) (he : PE X e ta) (hr : Room 2 X.A) (hab : attributeBase e "cells" X.env (eval e X.env) = eval e X.env) : PE X (.Attribute e "cells" pos) (tCells CP CC CT ta) := by
  obtain ⟨p1, g1, f1, h1, F1, b1⟩ := M.pP.ex
  obtain ⟨p2, g2, f2, h2, F2, b2⟩ := M.pC.ex
  obtain ⟨p3, g3, f3, h3, F3, b3⟩ := M.pT.ex
  exact pe_or (pe_prop he M.pP.cl h1 F1 hr b1 .nil pass0 hab) (pe_or (pe_prop he M.pC.cl h2 F2 hr b2 .nil pass0 hab) (pe_prop he M.pT.cl h3 F3 hr b3 .nil pass0 hab))
/-- what it comes to -/
theorem cells_of {CP CC CT : Addr} {N H : Hp} {m : Addr} {z : Str} {key : Int} {kvs : List (Key × V)} {σ : L2.St} {i : Nat} {Q : VK} (h : Msg CP CC CT N H m z key kvs) (hσ : σ[i]? = some (some (.ref m))) (q : ∀ d, H d = none → Q (.ref d) (upd H d (.dK kvs))) : tCells CP CC CT (tVar i) σ H Q := by
  obtain ⟨n, h | ⟨hz, dx, d, nd, h1, h2⟩⟩ := h
  · obtain ⟨rfl, rfl, dx, h1⟩ := h
    exact .inr (.inr ⟨_, hσ, m, dx, _, rfl, h1, m, rfl, q⟩)
  · rcases hz with rfl | rfl
    · exact .inl ⟨_, hσ, m, dx, _, rfl, h1, m, dx, d, key, kvs, rfl, h1, h2, q⟩
    · exact .inr (.inl ⟨_, hσ, m, dx, _, rfl, h1, m, dx, d, key, kvs, rfl, h1, h2, q⟩)
theorem Msg.take_nil {CP CC CT : Addr} {N H : Hp} {m : Addr} {z : Str} {key : Int} {kvs : List (Key × V)} (h : Msg CP CC CT N H m z key kvs) (e : z = "take") : kvs = [] := by
  obtain ⟨n, h | ⟨hz, _⟩⟩ := h
  · exact h.2.1
  · subst e
    rcases hz with hz | hz <;> exact absurd hz (by decide)
theorem eqv_3 (a b c : Bool) : PyData.eqv (.list [.bool a, .bool b, .bool c]) (.list [.bool a, .bool b, .bool c]) = true := by simp [PyData.eqv, PyData.eqvAll]
theorem shaped_3 (a b c : Bool) : SeqAt.shaped (.list [.bool a, .bool b, .bool c]) = true := by
  simp [SeqAt.shaped, PyData.canLay0, PyData.canLayAll0, PyData.depth, PyData.depthAll]
abbrev nRight : List Str := ["message", "deed", "key", "cells", "due", "kinds"]
theorem scRight : FnScope nRight ["message", "deed", "key", "cells"] (defScope sRight) := ⟨rfl, rfl, rfl, by decide +kernel, rfl, by decide +kernel, by decide +kernel⟩
theorem ok_right {CP CC CT CM f : Addr} {fd : FuncData} (F : FnP K "_law_right" sRight f fd) (M : MsF P w K mg base CP CC CT CM) (T : TxtQ mg) (cI : Cal P w K mg base CX0 "_law_is_integer" 1 ["value"] (spIsInteger K)) (cR : Cal P w K mg base CX0 "_law_is_row" 2 ["told", "due"] spIsRow) :
    FnOk P w K mg base CX0 3 f fd ["message", "deed", "key", "cells"] (spRight CP CC CT) := by
  refine F.ok scRight (fun vs H Q E h => ?_) (fun cdv A outer s H vs Q E hr h => ?_)
  · obtain ⟨m, c, z, key, N, kvs0, kvs, rfl, _⟩ := h
    rfl
  · obtain ⟨m, c, z, key, N, kvs0, kvs, rfl, hm, hc, rk, same, k⟩ := h
    have nd := scRight.nd
    have h1 : Room 1 _ := hr.mono (by decide)
    have hu := hu_of hr
    obtain ⟨hz, dx, fs, hi, hl⟩ := hm.at
    have Z := M.one z hz
    refine ⟨_, PSs.nox (pss_cons (ps_set (i := 4) nd rfl (Or.inl rfl) (pe_ifExp (pt_cmpR op_eq (pv 1) pe_str (nomark _)) pe_dnewK (pv 3)))
      (pss_cons (ps_if (PW.pt (pw_or (pt_not (pt_val (pe_callB call_isi (by rfl) T.isi (by decide +kernel) (pa_cons (pv 0) (pa_cons (pe_glob (v := .ref CM) rfl M.gM rfl) pa_nil))))) (pw_or1 (pt_cmpR op_ne (pe_con (pv 0) (by rfl)) (pv 1) (nomark _))))) (pss_one (ps_ret pe_bl)) pss_nil)
      (pss_cons (ps_if (PW.pt (pw_or (pt_not (pt_val (pe_cal cI h1 (pa_cons (pe_fld (pv 0) (by rfl)) pa_nil)))) (pw_or (pt_cmpR op_ne (pe_fld (pv 0) (by rfl)) (pv 2) (nomark _)) (pw_or1 (pt_not (pt_val (pe_cal cR hr (pa_cons (pe_cells M (pv 0) hr (by rfl)) (pa_cons (pv 4) pa_nil))))))))) (pss_one (ps_ret pe_bl)) pss_nil)
      (pss_cons (ps_set (i := 5) nd rfl (Or.inl rfl) (pe_lst (pa_cons (pe_callB call_isi (by rfl) T.isi (by decide +kernel) (pa_cons (pv 0) (pa_cons (pe_glob (v := .ref CP) rfl M.gP rfl) pa_nil))) (pa_cons (pe_callB call_isi (by rfl) T.isi (by decide +kernel) (pa_cons (pv 0) (pa_cons (pe_glob (v := .ref CC) rfl M.gC rfl) pa_nil)))
          (pa_cons (pe_callB call_isi (by rfl) T.isi (by decide +kernel) (pa_cons (pv 0) (pa_cons (pe_glob (v := .ref CT) rfl M.gT rfl) pa_nil))) pa_nil)))))
      (pss_one (ps_ret (pe_cmpR (op_eqD hr.units) (pv 5) (pe_lst (pa_cons (pe_cmpR op_eq (pv 1) pe_str (nomark _)) (pa_cons (pe_cmpR op_eq (pv 1) pe_str (nomark _)) (pa_cons (pe_cmpR op_eq (pv 1) pe_str (nomark _)) pa_nil)))) (nomark _)))))))), ?_⟩
    refine sq_set (fun x G => ∃ d, x = .ref d ∧ Same H G ∧ G d = some (.dK kvs0) ∧ RowOk kvs0) (fun Q q => ?_) ?_
    · refine ⟨_, rfl, rfl, _, rfl, str_it (fun e => ?_) (fun e => ?_)⟩
      · intro d nd'
        have e0 := hm.take_nil e
        exact q _ _ ⟨d, rfl, Lw.Same.new (Same.refl H) nd', by rw [e0]; exact upd_same, by rw [e0]; exact RowOk.nil⟩
      · exact ⟨_, rfl, q _ _ ⟨c, rfl, Same.refl H, by rw [same e]; exact hc, by rw [same e]; exact rk⟩⟩
    rintro _ G ⟨d, rfl, sG, hd, rk0⟩
    have hi1 := sG _ _ hi
    have hm1 := hm.same sG
    obtain ⟨u, con⟩ := Z.con
    refine ⟨_, rfl, _, _, _, _, true, rfl, .own CM, .base (.ins hi1 Z.T.cl Z.T.ha Z.T.hn Z.T.ht Z.T.hm), Z.kM, true, rfl, it_bf rfl ?_⟩
    refine ⟨_, rfl, m, _, dx, _, _, u, rfl, hi1, Z.T.cl, con, hl, _, rfl, rfl, _, rfl, it_bf (by simp) ?_⟩
    dsimp only [tNext]
    refine sq_if1 (fun b G' => Same G G' ∧ b = false) (fun Q q => ?_) ?_ ?_
    · refine ⟨_, rfl, m, _, dx, _, .int key, rfl, hi1, Z.T.cl, Z.T.nK, rfl, _, true, rfl, .inl ⟨rfl, key, rfl⟩, _, rfl, it_bf rfl ?_⟩
      refine ⟨_, rfl, m, _, dx, _, .int key, rfl, hi1, Z.T.cl, Z.T.nK, rfl, _, rfl, rfl, _, rfl, it_bf (by simp) ?_⟩
      refine cells_of hm1 rfl fun d' nd' => ?_
      refine ⟨_, rfl, _, _, rfl, .inr ⟨d', d, kvs0, kvs0, rfl, rfl, upd_same, (Lw.Same.new (Same.refl G) nd') _ _ hd, RowEq.refl rk0⟩, fun G' s' => ⟨_, rfl, q _ _ ⟨(Lw.Same.new (Same.refl G) nd').trans s', rfl⟩⟩⟩
    · rintro G' ⟨_, h⟩
      cases h
    rintro G1 ⟨s1, _⟩
    have hi2 := s1 _ _ hi1
    refine sq_set (fun x G2 => ∃ l, x = .ref l ∧ Same G1 G2 ∧ G2 l = some (.lst [.bl (decide (z = "put")), .bl (decide (z = "change")), .bl (decide (z = "take"))])) (fun Q q => ?_) ?_
    · refine ⟨_, rfl, _, _, _, _, _, rfl, .own CP, .base (.ins hi2 Z.T.cl Z.T.ha Z.T.hn Z.T.ht Z.T.hm), Z.kP, ?_⟩
      refine ⟨_, rfl, _, _, _, _, _, rfl, .own CC, .base (.ins hi2 Z.T.cl Z.T.ha Z.T.hn Z.T.ht Z.T.hm), Z.kC, ?_⟩
      refine ⟨_, rfl, _, _, _, _, _, rfl, .own CT, .base (.ins hi2 Z.T.cl Z.T.ha Z.T.hn Z.T.ht Z.T.hm), Z.kT, ?_⟩
      exact ⟨(by show 3 ≤ sizeLine; decide), fun l nl => q _ _ ⟨l, rfl, Lw.Same.new (Same.refl _) nl, upd_same⟩⟩
    rintro _ G2 ⟨l, rfl, s2, hl2⟩
    refine ⟨_, rfl, _, rfl, rfl, _, rfl, rfl, _, rfl, rfl, (by show 3 ≤ sizeLine; decide), fun l2 nl2 => ?_⟩
    refine ⟨.list [.bool (decide (z = "put")), .bool (decide (z = "change")), .bool (decide (z = "take"))], .list [.bool (decide (z = "put")), .bool (decide (z = "change")), .bool (decide (z = "take"))],
      .lst (SqL.of (by rw [upd_ne (ne_of_none hl2 nl2)]; exact hl2)) (.cons (.bl _) (.cons (.bl _) (.cons (.bl _) .nil))), .lst (SqL.of (by rw [upd_same, dec_str, dec_str, dec_str])) (.cons (.bl _) (.cons (.bl _) (.cons (.bl _) .nil))), shaped_3 _ _ _, shaped_3 _ _ _, ?_⟩
    rw [eqv_3]
    exact k _ ((sG.trans s1).trans (s2.trans (Lw.Same.new (Same.refl _) nl2)))
end
end Lw

set_option Elab.async false
set_option linter.all false
set_option maxRecDepth 100000
set_option maxHeartbeats 4000000
namespace Lw
open PySem PySem.Spec PyProof.Rows L2

abbrev sLaw : Stmt := top 17
section
variable {P : Program} {w : World} {K : PySem.W.Frag} {mg : Str → Option Value} {base : Heap}
def IsRef (v : V) (a : Addr) : Prop := v = .ref a
/-- an entry: message, deed, key, cells -/
def Ent (CP CC CT : Addr) (H : Hp) (x : V) : Prop := ∃ (t m c : Addr) (z : Str) (key : Int) (N : Hp) (kvs0 kvs : List (Key × V)), x = .ref t ∧ H t = some (.tup [.ref m, .str z, .int key, .ref c]) ∧ Msg CP CC CT N H m z key kvs0 ∧ H c = some (.dK kvs) ∧ RowOk kvs ∧ (z ≠ "take" → kvs0 = kvs)
theorem Ent.same {CP CC CT : Addr} {H G : Hp} {x : V} (s : Same H G) (h : Ent CP CC CT H x) : Ent CP CC CT G x := by
  obtain ⟨t, m, c, z, key, N, kvs0, kvs, e, h1, h2, h3, h4⟩ := h
  exact ⟨t, m, c, z, key, N, kvs0, kvs, e, s _ _ h1, h2.same s, s _ _ h3, h4⟩
theorem Msg.keepL {CP CC CT l : Addr} {N H G : Hp} {m : Addr} {z : Str} {key : Int} {kvs : List (Key × V)} {xs : List V} (hl : H l = some (.lst xs)) (k : Keep l H G) (h : Msg CP CC CT N H m z key kvs) : Msg CP CC CT N G m z key kvs := by
  obtain ⟨n, h | ⟨hz, dx, d, nd, h1, h2⟩⟩ := h
  · obtain ⟨e1, e2, dx, h1⟩ := h
    exact ⟨n, .inl ⟨e1, e2, dx, k _ _ (fun e => by subst e; rw [hl] at h1; cases h1) h1⟩⟩
  · exact ⟨n, .inr ⟨hz, dx, d, nd, k _ _ (fun e => by subst e; rw [hl] at h1; cases h1) h1, k _ _ (fun e => by subst e; rw [hl] at h2; cases h2) h2⟩⟩
theorem Ent.keepL {CP CC CT l : Addr} {H G : Hp} {x : V} {xs : List V} (hl : H l = some (.lst xs)) (k : Keep l H G) (h : Ent CP CC CT H x) : Ent CP CC CT G x := by
  obtain ⟨t, m, c, z, key, N, kvs0, kvs, e, h1, h2, h3, h4⟩ := h
  exact ⟨t, m, c, z, key, N, kvs0, kvs, e, k _ _ (fun e => by subst e; rw [hl] at h1; cases h1) h1, h2.keepL hl k, k _ _ (fun e => by subst e; rw [hl] at h3; cases h3) h3, h4⟩
theorem keep_new {l p : Addr} {H G G2 : Hp} (n : H p = none) (k : Keep l H G) (k2 : Keep p G G2) : Keep l H G2 := fun b o nb h => k2 b o (ne_of_none h n) (k b o nb h)
/-- entries made since N -/
def EntN (CP CC CT : Addr) (N : Hp) (d : Addr) (key : Int) (kvs : List (Key × V)) (H : Hp) (x : V) : Prop := ∃ (t m : Addr) (z : Str) (kvs0 : List (Key × V)), x = .ref t ∧ N t = none ∧ H t = some (.tup [.ref m, .str z, .int key, .ref d]) ∧ Msg CP CC CT N H m z key kvs0 ∧ (z ≠ "take" → kvs0 = kvs)
theorem EntN.same {CP CC CT : Addr} {N H G : Hp} {d : Addr} {key : Int} {kvs : List (Key × V)} {x : V} (s : Same H G) (h : EntN CP CC CT N d key kvs H x) : EntN CP CC CT N d key kvs G x := by
  obtain ⟨t, m, z, kvs0, e, n, h1, h2, h3⟩ := h
  exact ⟨t, m, z, kvs0, e, n, s _ _ h1, h2.same s, h3⟩
theorem EntN.upd {CP CC CT : Addr} {N H : Hp} {d : Addr} {key : Int} {kvs : List (Key × V)} {x : V} {a : Addr} {o o2 : HO} (n : N a = some o) (h : EntN CP CC CT N d key kvs H x) : EntN CP CC CT N d key kvs (upd H a o2) x := by
  obtain ⟨t, m, z, kvs0, e, nt, h1, h2, h3⟩ := h
  exact ⟨t, m, z, kvs0, e, nt, by rw [upd_ne (ne_of_none n nt).symm]; exact h1, h2.upd n, h3⟩
def Ap (CP CC CT : Addr) (N : Hp) (l d : Addr) (key : Int) (kvs : List (Key × V)) (xs : List V) (n : Nat) (G : Hp) : Prop := Keep l N G ∧ ∃ ys : List V, ys.length = n ∧ G l = some (.lst (xs ++ ys)) ∧ ∀ y ∈ ys, EntN CP CC CT N d key kvs G y
theorem app_step {CP CC CT l d m t : Addr} {N G G1 : Hp} {z : Str} {key : Int} {kvs kvs0 : List (Key × V)} {xs ys : List V} {n : Nat} {o : HO} (hN : N l = some o) (k1 : Keep l N G) (e1 : ys.length = n) (e2 : G l = some (.lst (xs ++ ys))) (e3 : ∀ y ∈ ys, EntN CP CC CT N d key kvs G y)
    (hm : Msg CP CC CT G G1 m z key kvs0) (hz : z ≠ "take" → kvs0 = kvs) (s : Same G G1) (nt : G1 t = none) : Ap CP CC CT N l d key kvs xs (n + 1) (upd (upd G1 t (.tup [.ref m, .str z, .int key, .ref d])) l (.lst (xs ++ ys ++ [.ref t]))) := by
  have ntN : N t = none := by
    cases e : N t with
    | none => rfl
    | some u =>
      by_cases h : t = l
      · subst h
        rw [s _ _ e2] at nt
        cases nt
      · rw [s _ _ (k1 _ _ h e)] at nt
        cases nt
  have nm : ∀ b, G b = none → N b = none := fun b hb => by
    cases e : N b with
    | none => rfl
    | some u =>
      by_cases h : b = l
      · subst h
        rw [e2] at hb
        cases hb
      · rw [k1 _ _ h e] at hb
        cases hb
  have hmN : Msg CP CC CT N G1 m z key kvs0 := by
    obtain ⟨n', h | ⟨hz', dx, d', nd, h1, h2⟩⟩ := hm
    · exact ⟨nm _ n', .inl h⟩
    · exact ⟨nm _ n', .inr ⟨hz', dx, d', nm _ nd, h1, h2⟩⟩
  have st : Same G1 (upd G1 t (.tup [.ref m, .str z, .int key, .ref d])) := Lw.Same.new (Same.refl _) nt
  have lt : l ≠ t := fun e => by subst e; rw [s _ _ e2] at nt; cases nt
  refine ⟨?_, ys ++ [.ref t], by rw [List.length_append, e1]; rfl, by rw [upd_same, List.append_assoc], fun y hy => ?_⟩
  · intro b u nb h
    rw [upd_ne nb]
    exact st _ _ (s _ _ (k1 b u nb h))
  · rcases List.mem_append.mp hy with h | h
    · exact ((e3 y h).same (s.trans st)).upd hN
    · rw [List.mem_singleton.mp h]
      exact EntN.upd hN ⟨t, m, z, kvs0, rfl, ntN, upd_same, hmN.same st, hz⟩
structure MkM (P : Program) (w : World) (K : PySem.W.Frag) (mg : Str → Option Value) (base : Heap) (C : Addr) (sp : Sp) (ps ks : List Str) : Prop where
  ex : ∃ f fd, Mk K C f ∧ FnOk P w K mg base CX0 1 f fd ps sp ∧ Binds K fd ps [] ∧ KBn K fd ps 1 ks (fun us ws => us ++ ws.reverse) (fun vs zs => vs ++ zs.reverse)
structure Cals (P : Program) (w : World) (K : PySem.W.Frag) (mg : Str → Option Value) (base : Heap) (CP CC CT : Addr) : Prop where
  src : Cal P w K mg base CX0 "_law_source" 1 ["script", "at"] (spSource K)
  draw : Cal P w K mg base CX0 "_law_draw" 1 ["source", "many"] spDrawW
  words : Cal P w K mg base CX0 "_law_words" 3 ["source", "many", "taken"] (spWords K)
  num : Cal P w K mg base CX0 "_law_number" 2 ["source", "limit"] spNumL
  cells : Cal P w K mg base CX0 "_law_cells" 3 ["source", "names"] spCells
  right : Cal P w K mg base CX0 "_law_right" 3 ["message", "deed", "key", "cells"] (spRight CP CC CT)
  range : mg "range" = none
  dict : mg "dict" = none
  all : mg "all" = none
  mP : MkM P w K mg base CP (spMI CP) ["self", "key", "cells"] ["cells", "key"]
  mC : MkM P w K mg base CC (spMI CC) ["self", "key", "cells"] ["cells", "key"]
  mT : MkM P w K mg base CT (spTI CT) ["self", "key"] ["key"]
  rdP : ClX.CRead K CP (.type "type") ∧ ∃ u, ClX.CVal K CP (.type "type") "deed" (.str "put") u
  rdC : ClX.CRead K CC (.type "type") ∧ ∃ u, ClX.CVal K CC (.type "type") "deed" (.str "change") u
  rdT : ClX.CRead K CT (.type "type") ∧ ∃ u, ClX.CVal K CT (.type "type") "deed" (.str "take") u
def spLaw (K : PySem.W.Frag) : Sp := fun vs H Q _ => ∃ (a : Addr) (ns : List Int), vs = [.ref a] ∧ SqL K H a (ns.map V.int) ∧ ns.length ≤ 63 ∧ ∀ H', Q (.bl true) H'
abbrev nLaw : List Str := ["script", "made", "at", "source", "names", "key", "cells", "first", "second", "turn", "message", "deed", "told", "kept"]
theorem scLaw : FnScope nLaw ["script"] (defScope sLaw) := ⟨rfl, rfl, rfl, by decide +kernel, rfl, by decide +kernel, by decide +kernel⟩
theorem ok_law {CP CC CT CM f : Addr} {fd : FuncData} (F : FnP K "law" sLaw f fd) (c : Cals P w K mg base CP CC CT) (M : MsF P w K mg base CP CC CT CM) : FnOk P w K mg base CX0 4 f fd ["script"] (spLaw K) := by
  obtain ⟨fP, fdP, MP, FP, bP, kP⟩ := c.mP.ex
  obtain ⟨fC, fdC, MC, FC, bC, kC⟩ := c.mC.ex
  obtain ⟨fT, fdT, MT, FT, bT, kT⟩ := c.mT.ex
  refine F.ok scLaw (fun vs H Q E h => ?_) (fun cdv A outer s0 H vs Q E hr h => ?_)
  · obtain ⟨a, ns, rfl, _⟩ := h
    rfl
  · obtain ⟨a, ns, rfl, hS, hlen, k⟩ := h
    have nd := scLaw.nd
    have h1 : Room 1 _ := hr.mono (by decide)
    have h2 : Room 2 _ := hr.mono (by decide)
    have h3 : Room 3 _ := hr.mono (by decide)
    have hu := hu_of hr
    refine ⟨_, PSs.nox (pss_cons (ps_set (i := 1) nd rfl (Or.inl rfl) (pe_lst pa_nil))
      (pss_cons (ps_for PassesOwn.never rfl (pi_range1 rfl c.range (pa_cons pe_int pa_nil)) (pg_name (i := 2) nd rfl (Or.inl rfl))
        (pss_cons (ps_set (i := 3) nd rfl (Or.inl rfl) (pe_cal c.src h1 (pa_cons (pv 0) (pa_cons (pv 2) pa_nil))))
        (pss_cons (ps_set (i := 4) nd rfl (Or.inl rfl) (pe_cal c.words h3 (pa_cons (pv 3) (pa_cons (pe_cal c.draw h1 (pa_cons (pv 3) (pa_cons pe_int pa_nil))) (pa_cons (pe_lst (pa_cons pe_str pa_nil)) pa_nil)))))
        (pss_cons (ps_par (i := 5) (j := 6) (by rfl) nd rfl rfl (by decide) rfl rfl (pa_cons (pe_cal c.num h2 (pa_cons (pv 3) (pa_cons (pe_op op_pow pe_int pe_int) pa_nil))) (pa_cons (pe_cal c.cells h3 (pa_cons (pv 3) (pa_cons (pv 4) pa_nil))) pa_nil)) (by rfl))
        (pss_cons (ps_par (i := 7) (j := 8) (by rfl) nd rfl rfl (by decide) rfl rfl (pa_cons (pe_callTy call_dictD (by rfl) c.dict (by decide +kernel) (pa_cons (pv 6) pa_nil)) (pa_cons (pe_callTy call_dictD (by rfl) c.dict (by decide +kernel) (pa_cons (pv 6) pa_nil)) pa_nil)) (by rfl))
        (pss_cons (ps_if (pt_cmpR op_eq (pe_cal c.draw h1 (pa_cons (pv 3) (pa_cons pe_int pa_nil))) pe_int (nomark _))
          (pss_cons (ps_expr (pe_bm PySem.F.plainAttrs_list PySem.F.slot_list_append PySem.F.type_list_append mt_append (pv 1) (pa_cons (pe_tup (pa_cons (pe_make MP FP h2 (by rfl) M.gP bP .nil pass0 (pa_cons (pv 5) (pa_cons (pv 7) pa_nil))) (pa_cons pe_str (pa_cons (pv 5) (pa_cons (pv 6) pa_nil))))) pa_nil)))
          (pss_cons (ps_expr (pe_bm PySem.F.plainAttrs_list PySem.F.slot_list_append PySem.F.type_list_append mt_append (pv 1) (pa_cons (pe_tup (pa_cons (pe_make MC FC h2 (by rfl) M.gC bC .nil pass0 (pa_cons (pv 5) (pa_cons (pv 8) pa_nil))) (pa_cons pe_str (pa_cons (pv 5) (pa_cons (pv 6) pa_nil))))) pa_nil)))
          (pss_one (ps_expr (pe_bm PySem.F.plainAttrs_list PySem.F.slot_list_append PySem.F.type_list_append mt_append (pv 1) (pa_cons (pe_tup (pa_cons (pe_make MT FT h2 (by rfl) M.gT bT .nil pass0 (pa_cons (pv 5) pa_nil)) (pa_cons pe_str (pa_cons (pv 5) (pa_cons (pv 6) pa_nil))))) pa_nil))))))
          (pss_cons (ps_expr (pe_bm PySem.F.plainAttrs_list PySem.F.slot_list_append PySem.F.type_list_append mt_append (pv 1) (pa_cons (pe_tup (pa_cons (pe_makeK0 MP FP h2 (by rfl) M.gP kP pass0 (pk_cons (pv 7) (pk_cons (pv 5) pk_nil))) (pa_cons pe_str (pa_cons (pv 5) (pa_cons (pv 6) pa_nil))))) pa_nil)))
          (pss_cons (ps_expr (pe_bm PySem.F.plainAttrs_list PySem.F.slot_list_append PySem.F.type_list_append mt_append (pv 1) (pa_cons (pe_tup (pa_cons (pe_makeK0 MC FC h2 (by rfl) M.gC kC pass0 (pk_cons (pv 8) (pk_cons (pv 5) pk_nil))) (pa_cons pe_str (pa_cons (pv 5) (pa_cons (pv 6) pa_nil))))) pa_nil)))
          (pss_one (ps_expr (pe_bm PySem.F.plainAttrs_list PySem.F.slot_list_append PySem.F.type_list_append mt_append (pv 1) (pa_cons (pe_tup (pa_cons (pe_makeK0 MT FT h2 (by rfl) M.gT kT pass0 (pk_cons (pv 5) pk_nil)) (pa_cons pe_str (pa_cons (pv 5) (pa_cons (pv 6) pa_nil))))) pa_nil)))))))
        (pss_cons (ps_if (PW.pt (pw_or (pt_cmpR (op_ne_dictA (Nat.lt_of_succ_lt hu)) (pv 7) (pv 6) (nomark _)) (pw_or1 (pt_cmpR (op_ne_dictA (Nat.lt_of_succ_lt hu)) (pv 8) (pv 6) (nomark _))))) (pss_one (ps_ret pe_bl)) pss_nil)
        (pss_cons (ps_dput hu (pv 7) pe_str pe_int rfl)
        (pss_one (ps_expr (pe_dclear (pv 8))))))))))))
      (pss_cons (ps_for PassesOwn.never rfl (pi_range1 rfl c.range (pa_cons pe_int pa_nil)) (pg_name (i := 9) nd rfl (Or.inl rfl))
        (pss_cons (ps_if (pt_not (pt_val (pe_callB (cr_all rfl) (by rfl) c.all (by decide +kernel) (pa_cons (pe_lc (own := [("message", 10), ("deed", 11), ("key", 5), ("cells", 6)]) (g := gTup K 4 (gCons (gName 10) (gCons (gName 11) (gCons (gName 5) (gCons (gName 6) gNil))))) (tt := tYes) rfl nd (pi_list (pv 1)) (blkOk_by (N := nLaw) (sc := defScope sLaw) (by decide +kernel))
            (fun _ _ _ _ _ => pg_tup (by rfl) (pgs_cons (pg_name (i := 10) nd rfl (Or.inl rfl)) (pgs_cons (pg_name (i := 11) nd rfl (Or.inl rfl)) (pgs_cons (pg_name (i := 5) nd rfl (Or.inl rfl)) (pgs_cons (pg_name (i := 6) nd rfl (Or.inl rfl)) pgs_nil))))) (fun _ _ _ _ _ => pts_nil) (fun _ _ _ _ _ => pe_cal c.right h3 (pa_cons (pv 10) (pa_cons (pv 11) (pa_cons (pv 5) (pa_cons (pv 6) pa_nil)))))) pa_nil)))) (pss_one (ps_ret pe_bl)) pss_nil)
        (pss_one (ps_for PassesOwn.never rfl (pi_list (pv 1)) (pg_tup (by rfl) (pgs_cons (pg_name (i := 10) nd rfl (Or.inl rfl)) (pgs_cons (pg_name (i := 11) nd rfl (Or.inl rfl)) (pgs_cons (pg_name (i := 5) nd rfl (Or.inl rfl)) (pgs_cons (pg_name (i := 6) nd rfl (Or.inl rfl)) pgs_nil)))))
          (pss_cons (ps_set (i := 12) nd rfl (Or.inl rfl) (pe_cells M (pv 10) h2 (by rfl)))
          (pss_cons (ps_set (i := 13) nd rfl (Or.inl rfl) (pe_callTy call_dictD (by rfl) c.dict (by decide +kernel) (pa_cons (pv 12) pa_nil)))
          (pss_cons (ps_expr (pe_dclear (pv 12)))
          (pss_cons (ps_dput hu (pv 12) pe_str pe_int rfl)
          (pss_one (ps_if (pt_cmpR (op_ne_dictA (Nat.lt_of_succ_lt hu)) (pe_cells M (pv 10) h2 (by rfl)) (pv 13) (nomark _)) (pss_one (ps_ret pe_bl)) pss_nil))))))))))
      (pss_one (ps_ret (pe_cmpR (op_eqD hr.units) (pe_tup (pa_cons (ClX.pe_cval (pe_glob (v := .ref CP) rfl M.gP rfl)) (pa_cons (ClX.pe_cval (pe_glob (v := .ref CC) rfl M.gC rfl)) (pa_cons (ClX.pe_cval (pe_glob (v := .ref CT) rfl M.gT rfl)) pa_nil)))) (pe_tup (pa_cons pe_str (pa_cons pe_str (pa_cons pe_str pa_nil)))) (nomark _))))))), ?_⟩
    have h9 : sizeLine = 16777216 := by decide
    refine sq_set (fun x G => ∃ l, x = .ref l ∧ H l = none ∧ G = upd H l (.lst [])) (fun Q q => ⟨(by show 0 ≤ sizeLine; decide), fun l nl => q _ _ ⟨l, rfl, nl, rfl⟩⟩) ?_
    rintro _ _ ⟨l, rfl, nl, rfl⟩
    have sl : Same H (upd H l (.lst [])) := Lw.Same.new (Same.refl H) nl
    have gl0 : (upd H l (.lst [])) l = some (.lst []) := upd_same
    generalize upd H l (.lst []) = Hl at sl gl0 ⊢
    refine ⟨_, rfl, by decide, by decide, ?_⟩
    refine for_range (lo := 0) (fun i σ G => ∃ (v2 v3 v4 v5 v6 v7 v8 v9 v10 v11 v12 v13 : Option V) (xs : List V), σ = [some (.ref a), some (.ref l), v2, v3, v4, v5, v6, v7, v8, v9, v10, v11, v12, v13] ∧ Same H G ∧ G l = some (.lst xs) ∧ xs.length = 3 * i ∧ ∀ x ∈ xs, Ent CP CC CT G x)
      ⟨_, _, _, _, _, _, _, _, _, _, _, _, [], rfl, sl, gl0, rfl, fun _ h => (List.not_mem_nil h).elim⟩ ?_ ?_
    · rintro i σ G hi ⟨v2, v3, v4, v5, v6, v7, v8, v9, v10, v11, v12, v13, xs, rfl, sG, gl, hx, hent⟩
      have hi2 : i < 2 := hi
      refine g_name ?_
      refine sq_set (fun x G1 => ∃ p, x = .ref p ∧ G p = none ∧ Same G G1 ∧ Src G1 p 0) (fun Q q => ⟨_, rfl, _, rfl, a, ns, _, rfl, sG.seq hS, by omega, by omega, by omega, fun p G1 np s1 hs => q _ _ ⟨p, rfl, np, s1, hs⟩⟩) ?_
      rintro _ G1 ⟨p, rfl, np, s1, S1⟩
      refine sq_set (fun x G2 => ∃ wl ws, x = .ref wl ∧ Keep p G1 G2 ∧ Src G2 p 81 ∧ G2 wl = some (.lst (ws.map V.str)) ∧ ws.length ≤ 8 ∧ GoodWs ws ["key"]) (fun Q q => ?_) ?_
      · refine ⟨_, rfl, _, rfl, p, _, _, rfl, S1, by decide, by decide, by decide, fun G2 m k2 s2 m0 m1 => ⟨(by show 1 ≤ sizeLine; decide), fun L nL => ?_⟩⟩
        refine ⟨p, L, _, m, ["key"], rfl, s2.new nL, by decide, s2.ne nL, upd_same, by decide, ⟨m0, by omega⟩, fun wl G3 ws nw k3 s3 hw lw gw => q _ _ ⟨wl, ws, rfl, (k2.trans ((Keep.refl G2).new nL)).trans k3, s3, hw, by omega, gw⟩⟩
      rintro _ G2 ⟨wl, ws, rfl, k2, S2, hw, lw, gw⟩
      refine sq_par (fun x y G3 => ∃ (key : Int) (d : Addr) (kvs : List (Key × V)), x = .int key ∧ y = .ref d ∧ Keep p G2 G3 ∧ Src G3 p 107 ∧ d ≠ p ∧ G d = none ∧ G3 d = some (.dK kvs) ∧ RowOk kvs) (fun Q q => ?_) ?_
      · refine ⟨_, rfl, _, _, rfl, rfl, ⟨by decide, by decide, by decide⟩, p, _, _, rfl, S2, by decide, by decide, by decide +kernel, fun G3 key k3 S3 => ?_⟩
        have wp : wl ≠ p := src_ne_strs S2 hw
        refine ⟨_, rfl, _, rfl, p, wl, _, ws, rfl, S3, by decide, k3 _ _ wp hw, gw.1, fun z hz => (gw.2 z hz).1, lw, fun d kvs G4 ndd k4 S4 hd rk _ => q _ _ _ ⟨key, d, kvs, rfl, rfl, k3.trans k4, S4.mono (by decide), S3.ne ndd, ?_, hd, rk⟩⟩
        cases e : G d with
        | none => rfl
        | some o =>
          have dp : d ≠ p := ne_of_none e np
          rw [k3 _ _ dp (k2 _ _ dp (s1 _ _ e))] at ndd
          cases ndd
      rintro _ _ G3 ⟨key, d, kvs, rfl, rfl, k3, S3, dp, ndG, hd, rk⟩
      have sG3 : Same G G3 := fun b o h => k3 _ _ (ne_of_none h np) (k2 _ _ (ne_of_none h np) (s1 _ _ h))
      refine sq_par (fun x y G4 => ∃ f g : Addr, x = .ref f ∧ y = .ref g ∧ Same G3 G4 ∧ f ≠ p ∧ g ≠ p ∧ f ≠ g ∧ G3 f = none ∧ G3 g = none ∧ G4 f = some (.dK kvs) ∧ G4 g = some (.dK kvs)) (fun Q q => ?_) ?_
      · refine ⟨_, rfl, d, kvs, rfl, .inl hd, fun f nf => ?_⟩
        have sf : Same G3 (upd G3 f (.dK kvs)) := Lw.Same.new (Same.refl _) nf
        refine ⟨_, rfl, d, kvs, rfl, .inl (sf _ _ hd), fun g ng => ?_⟩
        have sg : Same (upd G3 f (.dK kvs)) (upd (upd G3 f (.dK kvs)) g (.dK kvs)) := Lw.Same.new (Same.refl _) ng
        have fg : f ≠ g := fun e => by subst e; rw [upd_same] at ng; cases ng
        exact q _ _ _ ⟨f, g, rfl, rfl, sf.trans sg, S3.ne nf, S3.ne (none_of_same sf ng), fg, nf, none_of_same sf ng, sg _ _ upd_same, upd_same⟩
      rintro _ _ G4 ⟨f, g, rfl, rfl, s4, fp, gp, fg, nfG, ngG, hf, hg⟩
      have S4 := S3.same s4
      have lp : l ≠ p := ne_of_none gl np
      have gl4 := s4 _ _ (sG3 _ _ gl)
      have lf : f ≠ l := fun e => by subst e; rw [sG3 _ _ gl] at nfG; cases nfG
      have lg : g ≠ l := fun e => by subst e; rw [sG3 _ _ gl] at ngG; cases ngG
      have ld : d ≠ l := fun e => by subst e; rw [gl] at ndG; cases ndG
      have df : d ≠ f := ne_of_none hd nfG
      have dg : d ≠ g := ne_of_none hd ngG
      have hd4 := s4 _ _ hd
      refine sq_ifj (fun b N => Keep p G4 N) (fun G6 => ∃ N, Keep p G4 N ∧ Ap CP CC CT N l d key kvs xs 3 G6) (fun Q q => ⟨_, rfl, p, _, _, rfl, S4, by decide, by decide, by decide, fun N z k5 s5 _ _ => ⟨rfl, _, rfl, q _ _ k5⟩⟩) ?_ ?_ ?_
      · rintro N k5 D' kD
        have glN := k5 _ _ lp gl4
        have hfN := k5 _ _ fp hf
        have hgN := k5 _ _ gp hg
        have A0 : Ap CP CC CT N l d key kvs xs 0 N := ⟨fun b u nb h => h, [], rfl, by rw [List.append_nil]; exact glN, fun _ h => (List.not_mem_nil h).elim⟩
        refine sq_do (fun x G' => Ap CP CC CT N l d key kvs xs 1 G') (fun Q q => ?_) ?_
        · obtain ⟨kA, ys, e1, e2, e3⟩ := A0
          refine ⟨_, rfl, .inl ⟨rfl, _, SqL.of e2⟩, _, rfl, _, rfl, msg_new (CP := CP) (CC := CC) (CT := CT) (z := "put") (.inl rfl) (kA _ _ lf hfN) fun m Gm nm sm hm => ?_⟩
          exact ⟨_, rfl, _, rfl, (by show 4 ≤ sizeLine; decide), fun t nt => ⟨l, _, _, rfl, rfl, (Lw.Same.new (Same.refl Gm) nt) _ _ (sm _ _ e2), by rw [List.length_append]; omega, q _ _ (app_step glN kA e1 e2 e3 hm (fun _ => rfl) sm nt)⟩⟩
        rintro _ GA A1
        refine sq_do (fun x G' => Ap CP CC CT N l d key kvs xs 2 G') (fun Q q => ?_) ?_
        · obtain ⟨kA, ys, e1, e2, e3⟩ := A1
          refine ⟨_, rfl, .inl ⟨rfl, _, SqL.of e2⟩, _, rfl, _, rfl, msg_new (CP := CP) (CC := CC) (CT := CT) (z := "change") (.inr rfl) (kA _ _ lg hgN) fun m Gm nm sm hm => ?_⟩
          exact ⟨_, rfl, _, rfl, (by show 4 ≤ sizeLine; decide), fun t nt => ⟨l, _, _, rfl, rfl, (Lw.Same.new (Same.refl Gm) nt) _ _ (sm _ _ e2), by rw [List.length_append]; omega, q _ _ (app_step glN kA e1 e2 e3 hm (fun _ => rfl) sm nt)⟩⟩
        rintro _ GB A2
        refine s1_do (fun x G' => Ap CP CC CT N l d key kvs xs 3 G') (fun Q q => ?_) ?_
        · obtain ⟨kA, ys, e1, e2, e3⟩ := A2
          refine ⟨_, rfl, .inl ⟨rfl, _, SqL.of e2⟩, _, rfl, take_new (CP := CP) (CC := CC) (CT := CT) fun m Gm nm sm hm => ?_⟩
          exact ⟨_, rfl, _, rfl, (by show 4 ≤ sizeLine; decide), fun t nt => ⟨l, _, _, rfl, rfl, (Lw.Same.new (Same.refl Gm) nt) _ _ (sm _ _ e2), by rw [List.length_append]; omega, q _ _ (app_step glN kA e1 e2 e3 hm (fun h => absurd rfl h) sm nt)⟩⟩
        rintro _ GC A3
        exact kD _ ⟨N, k5, A3⟩
      · rintro N k5 D' kD
        have glN := k5 _ _ lp gl4
        have hfN := k5 _ _ fp hf
        have hgN := k5 _ _ gp hg
        have A0 : Ap CP CC CT N l d key kvs xs 0 N := ⟨fun b u nb h => h, [], rfl, by rw [List.append_nil]; exact glN, fun _ h => (List.not_mem_nil h).elim⟩
        refine sq_do (fun x G' => Ap CP CC CT N l d key kvs xs 1 G') (fun Q q => ?_) ?_
        · obtain ⟨kA, ys, e1, e2, e3⟩ := A0
          refine ⟨_, rfl, .inl ⟨rfl, _, SqL.of e2⟩, _, rfl, _, rfl, rfl, rfl, msg_new (CP := CP) (CC := CC) (CT := CT) (z := "put") (.inl rfl) (kA _ _ lf hfN) fun m Gm nm sm hm => ?_⟩
          exact ⟨_, rfl, _, rfl, (by show 4 ≤ sizeLine; decide), fun t nt => ⟨l, _, _, rfl, rfl, (Lw.Same.new (Same.refl Gm) nt) _ _ (sm _ _ e2), by rw [List.length_append]; omega, q _ _ (app_step glN kA e1 e2 e3 hm (fun _ => rfl) sm nt)⟩⟩
        rintro _ GA A1
        refine sq_do (fun x G' => Ap CP CC CT N l d key kvs xs 2 G') (fun Q q => ?_) ?_
        · obtain ⟨kA, ys, e1, e2, e3⟩ := A1
          refine ⟨_, rfl, .inl ⟨rfl, _, SqL.of e2⟩, _, rfl, _, rfl, rfl, rfl, msg_new (CP := CP) (CC := CC) (CT := CT) (z := "change") (.inr rfl) (kA _ _ lg hgN) fun m Gm nm sm hm => ?_⟩
          exact ⟨_, rfl, _, rfl, (by show 4 ≤ sizeLine; decide), fun t nt => ⟨l, _, _, rfl, rfl, (Lw.Same.new (Same.refl Gm) nt) _ _ (sm _ _ e2), by rw [List.length_append]; omega, q _ _ (app_step glN kA e1 e2 e3 hm (fun _ => rfl) sm nt)⟩⟩
        rintro _ GB A2
        refine s1_do (fun x G' => Ap CP CC CT N l d key kvs xs 3 G') (fun Q q => ?_) ?_
        · obtain ⟨kA, ys, e1, e2, e3⟩ := A2
          refine ⟨_, rfl, .inl ⟨rfl, _, SqL.of e2⟩, _, rfl, rfl, rfl, take_new (CP := CP) (CC := CC) (CT := CT) fun m Gm nm sm hm => ?_⟩
          exact ⟨_, rfl, _, rfl, (by show 4 ≤ sizeLine; decide), fun t nt => ⟨l, _, _, rfl, rfl, (Lw.Same.new (Same.refl Gm) nt) _ _ (sm _ _ e2), by rw [List.length_append]; omega, q _ _ (app_step glN kA e1 e2 e3 hm (fun h => absurd rfl h) sm nt)⟩⟩
        rintro _ GC A3
        exact kD _ ⟨N, k5, A3⟩
      rintro G6 ⟨N, k5, kA, ys, e1, e2, e3⟩
      have hf6 := kA _ _ lf (k5 _ _ fp hf)
      have hg6 := kA _ _ lg (k5 _ _ gp hg)
      have hd6 := kA _ _ ld (k5 _ _ dp hd4)
      have hdict : kvs.length = kvs.length ∧ ∀ p ∈ kvs, valV kvs p.1 = some p.2 ∧ flatB p.2 = true := ⟨rfl, fun p hp => ⟨valV_mem rk.nodup p hp, (rk.2.1 p hp).flat⟩⟩
      have klen : kvs.length ≤ 60 := rk.2.2
      refine ⟨_, rfl, _, rfl, f, d, kvs, kvs, rfl, rfl, hf6, hd6, rfl, hdict.2, _, rfl, it_bf rfl ?_⟩
      refine ⟨_, rfl, _, rfl, g, d, kvs, kvs, rfl, rfl, hg6, hd6, rfl, hdict.2, _, rfl, it_bf rfl ?_⟩
      refine ⟨_, rfl, f, _, rfl, DPut.k (k := .inr "x") hf6 (by omega), ?_⟩
      have hg7 : (upd G6 f (.dK (putK kvs (.inr "x") (.int 5)))) g = some (.dK kvs) := by rw [upd_ne fg.symm]; exact hg6
      refine ⟨_, rfl, .inr (.inr (.inl ⟨rfl, .inl ⟨kvs, hg7⟩⟩)), g, kvs, rfl, rfl, hg7, ?_⟩
      have kG : Keep l G (upd (upd G6 f (.dK (putK kvs (.inr "x") (.int 5)))) g (.dK [])) := fun b o nb h => by
        have h3 := sG3 _ _ h
        rw [upd_ne (ne_of_none h3 ngG), upd_ne (ne_of_none h3 nfG)]
        exact kA _ _ nb (k5 _ _ (ne_of_none h np) (s4 _ _ h3))
      refine ⟨_, _, _, _, _, _, _, _, _, _, _, _, xs ++ ys, rfl, fun b o h => kG b o (ne_of_none h nl) (sG b o h), by rw [upd_ne lg.symm, upd_ne lf.symm]; exact e2, by rw [List.length_append, hx, e1]; omega, fun x hx' => ?_⟩
      rcases List.mem_append.mp hx' with m | m
      · exact (hent x m).keepL gl kG
      · obtain ⟨t, mm, z, kvs0, ex, nt, h1', h2', h3'⟩ := ((e3 x m).upd (a := f) (o2 := .dK (putK kvs (.inr "x") (.int 5))) (k5 _ _ fp hf)).upd (a := g) (o2 := .dK []) (k5 _ _ gp hg)
        exact ⟨t, mm, d, z, key, N, kvs0, kvs, ex, h1', h2', by rw [upd_ne dg, upd_ne df]; exact hd6, rk, h3'⟩
    · rintro σ G ⟨v2, v3, v4, v5, v6, v7, v8, v9, v10, v11, v12, v13, xs, rfl, sG, gl, hx, hent⟩
      have hx6 : xs.length = 6 := hx
      obtain ⟨rP, uP, hP⟩ := c.rdP
      obtain ⟨rC, uC, hC⟩ := c.rdC
      obtain ⟨rT, uT, hT⟩ := c.rdT
      dsimp only
      refine ⟨_, rfl, by decide, by decide, ?_⟩
      refine for_range (lo := 0) (fun i σ G => ∃ (v2 v3 v4 v5 v6 v7 v8 v9 v10 v11 v12 v13 : Option V), σ = [some (.ref a), some (.ref l), v2, v3, v4, v5, v6, v7, v8, v9, v10, v11, v12, v13] ∧ G l = some (.lst xs) ∧ ∀ x ∈ xs, Ent CP CC CT G x)
        ⟨_, _, _, _, _, _, _, _, _, _, _, _, rfl, gl, hent⟩ ?_ ?_
      · rintro i σ G hi ⟨v2, v3, v4, v5, v6, v7, v8, v9, v10, v11, v12, v13, rfl, gl, hent⟩
        refine g_name ?_
        refine sq_if1 (fun b G' => Same G G' ∧ b = false) (fun Q q => ?_) ?_ ?_
        · refine ⟨_, rfl, l, rfl, ⟨_, SqL.of gl⟩, fun D nD => ?_⟩
          refine lc_list (xs := xs) (fun j H' => H' D = some (.lst ((List.replicate j true).map V.bl)) ∧ Same G H') ⟨upd_same, Lw.Same.new (Same.refl G) nD⟩ (fun j H' _ ⟨_, s'⟩ => SqL.of (s' _ _ gl)) ?_ ?_
          · rintro j x H' hx' ⟨hD, s'⟩
            obtain ⟨t, m, c', z, key, N, kvs0, kvs, rfl, ht, hm, hc, rk, hz⟩ := (hent x (List.mem_of_getElem? hx')).same s'
            have hj : j < xs.length := (List.getElem?_eq_some_iff.mp hx').1
            refine ⟨t, _, rfl, SqT.of ht, rfl, _, _, rfl, _, _, rfl, _, _, rfl, _, _, rfl, rfl, rfl, ?_⟩
            refine ⟨_, rfl, _, rfl, _, rfl, _, rfl, m, c', z, key, N, kvs0, kvs, rfl, hm, hc, rk, hz, fun G' sG' => ?_⟩
            refine ⟨_, sG' _ _ hD, by simp only [List.length_map, List.length_replicate]; omega, ?_, same_at nD (s'.trans sG')⟩
            rw [upd_same, List.replicate_succ', List.map_append]
            rfl
          · rintro H' ⟨hD, s'⟩
            exact ⟨D, List.replicate xs.length true, rfl, SqL.of hD, _, rfl, q _ _ ⟨s', by simp⟩⟩
        · rintro G' ⟨_, h⟩
          cases h
        rintro G1 ⟨s1, _⟩
        have gl1 := s1 _ _ gl
        refine ⟨_, rfl, l, rfl, ⟨_, SqL.of gl1⟩, ?_⟩
        refine for_list (xs := xs) (fun j σ G' => Same G1 G' ∧ ∃ (v2 v3 v4 v5 v6 v7 v8 v9 v10 v11 v12 v13 : Option V), σ = [some (.ref a), some (.ref l), v2, v3, v4, v5, v6, v7, v8, v9, v10, v11, v12, v13]) ⟨Same.refl _, _, _, _, _, _, _, _, _, _, _, _, _, rfl⟩ (fun j σ G' _ ⟨s', _⟩ => SqL.of (s' _ _ gl1)) ?_ ?_
        · rintro j x σ G' hx' ⟨s', v2, v3, v4, v5, v6, v7, v8, v9, v10, v11, v12, v13, rfl⟩
          obtain ⟨t, m, c', z, key, N, kvs0, kvs, rfl, ht, hm, hc, rk, hz⟩ := ((hent x (List.mem_of_getElem? hx')).same s1).same s'
          have rk0 : RowOk kvs0 := by
            by_cases e : z = "take"
            · rw [hm.take_nil e]; exact RowOk.nil
            · rw [hz e]; exact rk
          have kl0 : kvs0.length ≤ 60 := rk0.2.2
          refine ⟨t, _, rfl, SqT.of ht, rfl, _, _, rfl, _, _, rfl, _, _, rfl, _, _, rfl, rfl, ?_⟩
          refine sq_set (fun x G2 => ∃ D, x = .ref D ∧ G' D = none ∧ G2 = upd G' D (.dK kvs0)) (fun Q q => cells_of hm rfl fun D nD => q _ _ ⟨D, rfl, nD, rfl⟩) ?_
          rintro _ _ ⟨D, rfl, nD, rfl⟩
          refine sq_set (fun x G3 => ∃ e, x = .ref e ∧ (upd G' D (.dK kvs0)) e = none ∧ G3 = upd (upd G' D (.dK kvs0)) e (.dK kvs0)) (fun Q q => ⟨_, rfl, D, kvs0, rfl, .inl upd_same, fun e ne => q _ _ ⟨e, rfl, ne, rfl⟩⟩) ?_
          rintro _ _ ⟨e, rfl, ne, rfl⟩
          have eD : e ≠ D := fun h => by subst h; rw [upd_same] at ne; cases ne
          have neG : G' e = none := by rw [upd_ne eD] at ne; exact ne
          have hD3 : (upd (upd G' D (.dK kvs0)) e (.dK kvs0)) D = some (.dK kvs0) := by rw [upd_ne eD.symm]; exact upd_same
          refine ⟨_, rfl, .inr (.inr (.inl ⟨rfl, .inl ⟨kvs0, hD3⟩⟩)), D, kvs0, rfl, rfl, hD3, ?_⟩
          refine ⟨_, rfl, D, _, rfl, DPut.k (k := .inr "y") (kvs := []) upd_same (by show 0 < sizeLine; omega), ?_⟩
          have sF : Same G' (upd (upd (upd (upd G' D (.dK kvs0)) e (.dK kvs0)) D (.dK [])) D (.dK (putK [] (.inr "y") (.int 7)))) := same_at nD (same_at nD (same_at neG (same_at nD (Same.refl G'))))
          have he : (upd (upd (upd (upd G' D (.dK kvs0)) e (.dK kvs0)) D (.dK [])) D (.dK (putK [] (.inr "y") (.int 7)))) e = some (.dK kvs0) := by rw [upd_ne eD, upd_ne eD]; exact upd_same
          generalize (upd (upd (upd (upd G' D (.dK kvs0)) e (.dK kvs0)) D (.dK [])) D (.dK (putK [] (.inr "y") (.int 7)))) = G5 at sF he ⊢
          refine cells_of (hm.same sF) rfl fun d2 nd2 => ?_
          have s2 : Same G5 (upd G5 d2 (.dK kvs0)) := Lw.Same.new (Same.refl _) nd2
          refine ⟨_, rfl, d2, e, kvs0, kvs0, rfl, rfl, upd_same, s2 _ _ he, rfl, fun p hp => ⟨valV_mem rk0.nodup p hp, (rk0.2.1 p hp).flat⟩, _, rfl, it_bf rfl ?_⟩
          exact ⟨(s'.trans sF).trans s2, _, _, _, _, _, _, _, _, _, _, _, _, rfl⟩
        · rintro σ G' ⟨s', v2, v3, v4, v5, v6, v7, v8, v9, v10, v11, v12, v13, rfl⟩
          exact ⟨_, _, _, _, _, _, _, _, _, _, _, _, rfl, s' _ _ gl1, fun x hx' => ((hent x hx').same s1).same s'⟩
      · rintro σ G ⟨v2, v3, v4, v5, v6, v7, v8, v9, v10, v11, v12, v13, rfl, gl, hent⟩
        refine ⟨CP, _, _, uP, rfl, rP, hP, CC, _, _, uC, rfl, rC, hC, CT, _, _, uT, rfl, rT, hT, (by show 3 ≤ sizeLine; decide), fun t nt => ⟨(by show 3 ≤ sizeLine; decide), fun t2 nt2 => ?_⟩⟩
        have ht1 := (Lw.Same.new (o := .tup [.str "put", .str "change", .str "take"]) (Same.refl _) nt2) _ _ (upd_same (H := G) (a := t) (o := .tup [.str "put", .str "change", .str "take"]))
        refine ⟨.tuple [.str "put", .str "change", .str "take"], .tuple [.str "put", .str "change", .str "take"], .tup (SqT.of ht1) (.cons (.str _) (.cons (.str _) (.cons (.str _) .nil))), .tup (SqT.of upd_same) (.cons (.str _) (.cons (.str _) (.cons (.str _) .nil))), by decide +kernel, by decide +kernel, ?_⟩
        have e : PyData.eqv (.tuple [.str "put", .str "change", .str "take"]) (.tuple [.str "put", .str "change", .str "take"]) = true := by decide +kernel
        rw [e]
        exact k _
end
end Lw

set_option Elab.async false
set_option linter.all false
set_option maxRecDepth 100000
set_option maxHeartbeats 0
namespace Lw
open PySem PySem.Spec PyProof.Rows L2
def fn : List He5.DefA := [dM "Put" "__init__" "Put.__init__" sPutI, dP "Put" "cells" "Put.cells" sPutC, dM "Change" "__init__" "Change.__init__" sChgI, dP "Change" "cells" "Change.cells" sChgC, dM "Take" "__init__" "Take.__init__" sTakeI, dP "Take" "cells" "Take.cells" sTakeC,
  dG "_law_source" sSource, dG "_law_draw" sDraw, dG "_law_word" sWord, dG "_law_words" sWords, dG "_law_number" sNumber, dG "_law_is_integer" sIsInteger, dG "_law_is_row" sIsRow, dG "_law_cells" sCells, dG "_law_right" sRight, dG "law" sLaw]
def glos : List Str := ["Message", "Put", "Change", "Take", "_law_source", "_law_draw", "_law_word", "_law_words", "_law_number", "_law_is_integer", "_law_is_row", "_law_cells", "_law_right", "law"]
def frees : List Str := ["len", "abs", "int", "range", "sum", "isinstance", "bool", "str", "list", "tuple", "dict", "all", "sorted"]
def fa : List He.Fa := glos.map He.Fa.glo ++ (frees.map He.Fa.free ++ [.cls "Put", .noat "Put" "key", .noat "Put" "_cells", .mkr "Put", .cls "Change", .noat "Change" "key", .noat "Change" "_cells", .mkr "Change", .cls "Take", .noat "Take" "key", .mkr "Take"])
def kitB (K : PySem.W.Frag) (C : Str) (bP bC bT : Bool) : Bool := decide (PySem.W.kitOne K (.ref (He.ga K C)) (.ref (He.ga K "Message")) = some true) && (decide (PySem.W.kitOne K (.ref (He.ga K C)) (.ref (He.ga K "Put")) = some bP) && (decide (PySem.W.kitOne K (.ref (He.ga K C)) (.ref (He.ga K "Change")) = some bC) &&
  (decide (PySem.W.kitOne K (.ref (He.ga K C)) (.ref (He.ga K "Take")) = some bT) && Hk.insB K (He.ga K C))))
def ownC (K : PySem.W.Frag) (C z : Str) (bP bC bT : Bool) : Bool := kitB K C bP bC bT && (conB K (He.ga K C) "deed" z && (propB K (He.ga K C) "cells" && (Hc.crB K (He.ga K C) && Hc.cvS K (He.ga K C) "deed" z)))
def own (K : PySem.W.Frag) : Bool := ownC K "Put" "put" true false false && (ownC K "Change" "change" false true false && ownC K "Take" "take" false false true)
abbrev R : PySem.W.OpenRow := PySem.W.OpenLaw.row PySem.Challenge.rw_filteredcopies_k31_messages_made
abbrev qv : Program := PySem.W.view R.prog [17]
def names : List Str := ["Message", "Put", "Change", "Take", "_law_source", "_law_draw", "_law_pick", "_law_word", "_law_words", "_law_number", "_law_is_integer", "_law_is_row", "_law_message", "_law_cells", "_law_right"]
abbrev hk : PySem.W.Hook := Hc.hook 6 fa fn own
def ob (s : PySem.W.SharedT) : Hc.Al := Hc.obG 6 fa fn own (HandSHeadRun.getT s)
theorem ob_eq (s : PySem.W.SharedT) : ob s = hk.obs s.abs := Hc.obG_eq (HandSHeadRun.getT_eq s)
theorem run (w : World) : HandSHeadRun.RunEq R qv hk ob 9000 names w :=
  PySem.W.byRow2 "special-get-raises" (P := fun w => HandSHeadRun.RunEq R qv hk ob 9000 names w) (fun w => by intro os; kernel_rfl) (fun w => by intro os; kernel_rfl) w
end Lw

set_option Elab.async false
set_option linter.all false
set_option maxRecDepth 100000
set_option maxHeartbeats 4000000
namespace Lw
open PySem PySem.Spec PyProof.Rows L2
section
variable {K : PySem.W.Frag} {h : Heap} {mg : Str → Option Value}
theorem f_glo (X : K.In h) (G : h.Ns mainGlobals mg) (c : Hc.Says fa fn own K) {x : Str} (hx : x ∈ glos) : mg x = some (.ref (He.ga K x)) :=
  He.glo_ok X G (c.fact (f := .glo x) (List.mem_append_left _ (List.mem_map_of_mem hx)))
theorem f_free (X : K.In h) (G : h.Ns mainGlobals mg) (c : Hc.Says fa fn own K) {x : Str} (hx : x ∈ frees) : mg x = none :=
  He.free_ok X G (c.fact (f := .free x) (List.mem_append_right _ (List.mem_append_left _ (List.mem_map_of_mem hx))))
end
theorem cls_z {K : PySem.W.Frag} {CP CC CT CM C : Addr} {z : Str} {bP bC bT : Bool} (e : clsOf CP CC CT z = C) (T : TxtC1 K C) (con : ∃ u, Con K C "deed" (.str z) u) (kM : PySem.W.kitOne K (.ref C) (.ref CM) = some true) (kP : PySem.W.kitOne K (.ref C) (.ref CP) = some bP) (kC : PySem.W.kitOne K (.ref C) (.ref CC) = some bC) (kT : PySem.W.kitOne K (.ref C) (.ref CT) = some bT)
    (eP : bP = decide (z = "put")) (eC : bC = decide (z = "change")) (eT : bT = decide (z = "take")) : ClsZ K CP CC CT CM z := by
  subst e eP eC eT
  exact ⟨T, con, kM, kP, kC, kT⟩
theorem facts {P : Program} {w : World} {K : PySem.W.Frag} {h : Heap} {mg : Str → Option Value} {f : Addr} (X : K.In h) (G : h.Ns mainGlobals mg) (hfa : mg ("law" : Str) = some (.ref f)) (c : Hc.Says fa fn own K) :
    ∃ fd : FuncData, (∀ (s : Shared) (v : Value), BindsTo s fd ⟨[v], []⟩ [("script", v)]) ∧ ∀ base : Heap, K.In base → base.Ns mainGlobals mg → FnOk P w K mg base CX0 4 f fd ["script"] (spLaw K) := by
  have gl : ∀ {x : Str}, x ∈ glos → mg x = some (.ref (He.ga K x)) := fun hx => f_glo X G c hx
  have fr : ∀ {x : Str}, x ∈ frees → mg x = none := fun hx => f_free X G c hx
  obtain ⟨oP, o⟩ := He.ba c.2
  obtain ⟨oC, oT⟩ := He.ba o
  have own1 : ∀ {C z : Str} {bP bC bT : Bool}, ownC K C z bP bC bT = true → Cls K (He.ga K C) → NoAttr K (He.ga K C) "key" →
      TxtC1 K (He.ga K C) ∧ (∃ u, Con K (He.ga K C) "deed" (.str z) u) ∧ PySem.W.kitOne K (.ref (He.ga K C)) (.ref (He.ga K "Message")) = some true ∧ PySem.W.kitOne K (.ref (He.ga K C)) (.ref (He.ga K "Put")) = some bP ∧ PySem.W.kitOne K (.ref (He.ga K C)) (.ref (He.ga K "Change")) = some bC ∧ PySem.W.kitOne K (.ref (He.ga K C)) (.ref (He.ga K "Take")) = some bT ∧
      PropOf K (He.ga K C) "cells" (He.ma K (He.ga K C) "cells") (He5.wf K (He.ga K C) "property" "cells") ∧ ClX.CRead K (He.ga K C) (.type "type") ∧ ∃ u, ClX.CVal K (He.ga K C) (.type "type") "deed" (.str z) u := fun {C z bP bC bT} h hc hn => by
    obtain ⟨a1, a⟩ := He.ba h
    obtain ⟨a2, a⟩ := He.ba a
    obtain ⟨a3, a⟩ := He.ba a
    obtain ⟨a4, a5⟩ := He.ba a
    obtain ⟨b1, b⟩ := He.ba a1
    obtain ⟨b2, b⟩ := He.ba b
    obtain ⟨b3, b⟩ := He.ba b
    obtain ⟨b4, b5⟩ := He.ba b
    obtain ⟨i1, i⟩ := He.ba b5
    obtain ⟨i2, i⟩ := He.ba i
    obtain ⟨i3, i4⟩ := He.ba i
    exact ⟨⟨hc, hn, He.eqO_ok i1, of_decide_eq_true i3, of_decide_eq_true i4, of_decide_eq_true i2⟩, conB_ok a2 (by decide +kernel), of_decide_eq_true b1, of_decide_eq_true b2, of_decide_eq_true b3, of_decide_eq_true b4, propB_ok a3, Hc.crB_ok a4, Hc.cvS_ok a5⟩
  obtain ⟨TP, conP, kPM, kPP, kPC, kPT, prP, rdP, cvP⟩ := own1 oP (He.cls_ok (c.fact (by unfold fa; simp))) (He.noat_ok (c.fact (by unfold fa; simp)))
  obtain ⟨TC, conC, kCM, kCP, kCC, kCT, prC, rdC, cvC⟩ := own1 oC (He.cls_ok (c.fact (by unfold fa; simp))) (He.noat_ok (c.fact (by unfold fa; simp)))
  obtain ⟨TT, conT, kTM, kTP, kTC, kTT, prT, rdT, cvT⟩ := own1 oT (He.cls_ok (c.fact (by unfold fa; simp))) (He.noat_ok (c.fact (by unfold fa; simp)))
  have nCP : NoAttr K (He.ga K "Put") "_cells" := He.noat_ok (c.fact (by unfold fa; simp))
  have nCC : NoAttr K (He.ga K "Change") "_cells" := He.noat_ok (c.fact (by unfold fa; simp))
  obtain ⟨d0, D0⟩ := c.1.def_ 0 (d := dM "Put" "__init__" "Put.__init__" sPutI) rfl
  obtain ⟨d1, D1⟩ := c.1.def_ 1 (d := dP "Put" "cells" "Put.cells" sPutC) rfl
  obtain ⟨d2, D2⟩ := c.1.def_ 2 (d := dM "Change" "__init__" "Change.__init__" sChgI) rfl
  obtain ⟨d3, D3⟩ := c.1.def_ 3 (d := dP "Change" "cells" "Change.cells" sChgC) rfl
  obtain ⟨d4, D4⟩ := c.1.def_ 4 (d := dM "Take" "__init__" "Take.__init__" sTakeI) rfl
  obtain ⟨d5, D5⟩ := c.1.def_ 5 (d := dP "Take" "cells" "Take.cells" sTakeC) rfl
  obtain ⟨d6, D6⟩ := c.1.def_ 6 (d := dG "_law_source" sSource) rfl
  obtain ⟨d7, D7⟩ := c.1.def_ 7 (d := dG "_law_draw" sDraw) rfl
  obtain ⟨d8, D8⟩ := c.1.def_ 8 (d := dG "_law_word" sWord) rfl
  obtain ⟨d9, D9⟩ := c.1.def_ 9 (d := dG "_law_words" sWords) rfl
  obtain ⟨d10, D10⟩ := c.1.def_ 10 (d := dG "_law_number" sNumber) rfl
  obtain ⟨d11, D11⟩ := c.1.def_ 11 (d := dG "_law_is_integer" sIsInteger) rfl
  obtain ⟨d12, D12⟩ := c.1.def_ 12 (d := dG "_law_is_row" sIsRow) rfl
  obtain ⟨d13, D13⟩ := c.1.def_ 13 (d := dG "_law_cells" sCells) rfl
  obtain ⟨d14, D14⟩ := c.1.def_ 14 (d := dG "_law_right" sRight) rfl
  obtain ⟨d15, D15⟩ := c.1.def_ 15 (d := dG "law" sLaw) rfl
  have e := hfa.symm.trans (gl (x := "law") (by decide +kernel))
  cases e
  refine ⟨d15, fun s v => FunD.bindsA (ps := ["script"]) D15 (fun _ _ _ _ _ _ us hl => match us, hl with | [_], _ => rfl) s [v] rfl, fun base KB GB => ?_⟩
  have TD : TxtD mg := ⟨fr (by decide +kernel), fr (by decide +kernel), fr (by decide +kernel), fr (by decide +kernel)⟩
  have TQ : TxtQ mg := ⟨fr (by decide +kernel), fr (by decide +kernel), fr (by decide +kernel), fr (by decide +kernel), fr (by decide +kernel)⟩
  have hd : mg "dict" = none := fr (by decide +kernel)
  have cD := cal_draw (P := P) (w := w) (base := base) TD ⟨_, _, gl (by decide +kernel), D7⟩
  have cS : Cal P w K mg base CX0 "_law_source" 1 ["script", "at"] (spSource K) := ⟨_, _, gl (by decide +kernel), D6.kp, ok_source D6 TD (fr (by decide +kernel)), D6.bindsN fun _ _ _ _ _ _ us hl => match us, hl with | [_, _], _ => rfl⟩
  have cW : Cal P w K mg base CX0 "_law_word" 2 ["source", "taken"] (spWord2 K) := ⟨_, _, gl (by decide +kernel), D8.kp, ok_word D8 TD cD, D8.bindsN fun _ _ _ _ _ _ us hl => match us, hl with | [_, _], _ => rfl⟩
  have cWs : Cal P w K mg base CX0 "_law_words" 3 ["source", "many", "taken"] (spWords K) := ⟨_, _, gl (by decide +kernel), D9.kp, ok_words D9 TD cW, D9.bindsN fun _ _ _ _ _ _ us hl => match us, hl with | [_, _, _], _ => rfl⟩
  have cN : Cal P w K mg base CX0 "_law_number" 2 ["source", "limit"] spNumL := ⟨_, _, gl (by decide +kernel), D10.kp, ok_number D10 cD, D10.bindsN fun _ _ _ _ _ _ us hl => match us, hl with | [_, _], _ => rfl⟩
  have cI : Cal P w K mg base CX0 "_law_is_integer" 1 ["value"] (spIsInteger K) := ⟨_, _, gl (by decide +kernel), D11.kp, ok_isInteger D11 TQ, D11.bindsN fun _ _ _ _ _ _ us hl => match us, hl with | [_], _ => rfl⟩
  have cR : Cal P w K mg base CX0 "_law_is_row" 2 ["told", "due"] spIsRow := ⟨_, _, gl (by decide +kernel), D12.kp, ok_isRow D12 ⟨TQ, fr (by decide +kernel)⟩ cI, D12.bindsN fun _ _ _ _ _ _ us hl => match us, hl with | [_, _], _ => rfl⟩
  have cC : Cal P w K mg base CX0 "_law_cells" 3 ["source", "names"] spCells := ⟨_, _, gl (by decide +kernel), D13.kp, ok_cells D13 cD cN, D13.bindsN fun _ _ _ _ _ _ us hl => match us, hl with | [_, _], _ => rfl⟩
  have one : ∀ z ∈ deeds, ClsZ K (He.ga K "Put") (He.ga K "Change") (He.ga K "Take") (He.ga K "Message") z := fun z hz => by
    rcases List.mem_cons.mp hz with rfl | hz
    · exact cls_z (C := He.ga K "Put") rfl TP conP kPM kPP kPC kPT (by decide +kernel) (by decide +kernel) (by decide +kernel)
    rcases List.mem_cons.mp hz with rfl | hz
    · exact cls_z (C := He.ga K "Change") rfl TC conC kCM kCP kCC kCT (by decide +kernel) (by decide +kernel) (by decide +kernel)
    rcases List.mem_cons.mp hz with rfl | hz
    · exact cls_z (C := He.ga K "Take") rfl TT conT kTM kTP kTC kTT (by decide +kernel) (by decide +kernel) (by decide +kernel)
    cases hz
  have M : MsF P w K mg base (He.ga K "Put") (He.ga K "Change") (He.ga K "Take") (He.ga K "Message") := ⟨one,
    ⟨TP.cl, _, _, _, prP, ok_putC D1 TP nCP hd, D1.bindsN fun _ _ _ _ _ _ us hl => match us, hl with | [_], _ => rfl⟩, ⟨TC.cl, _, _, _, prC, ok_chgC D3 TC nCC hd, D3.bindsN fun _ _ _ _ _ _ us hl => match us, hl with | [_], _ => rfl⟩,
    ⟨TT.cl, _, _, _, prT, ok_takeC D5, D5.bindsN fun _ _ _ _ _ _ us hl => match us, hl with | [_], _ => rfl⟩, gl (by decide +kernel), gl (by decide +kernel), gl (by decide +kernel), gl (by decide +kernel)⟩
  have cRt : Cal P w K mg base CX0 "_law_right" 3 ["message", "deed", "key", "cells"] (spRight (He.ga K "Put") (He.ga K "Change") (He.ga K "Take")) := ⟨_, _, gl (by decide +kernel), D14.kp, ok_right D14 M TQ cI cR, D14.bindsN fun _ _ _ _ _ _ us hl => match us, hl with | [_, _, _, _], _ => rfl⟩
  exact ok_law D15 ⟨cS, cD, cWs, cN, cC, cRt, fr (by decide +kernel), hd, fr (by decide +kernel),
    ⟨_, _, He.mkr_ok (c.fact (by unfold fa; simp)), ok_putI D0 TP nCP hd, D0.bindsN fun _ _ _ _ _ _ us hl => match us, hl with | [_, _, _], _ => rfl, kb1 D0 vals_rev fun _ _ _ _ _ _ _ ws hl => match ws, hl with | [_, _], _ => rfl⟩,
    ⟨_, _, He.mkr_ok (c.fact (by unfold fa; simp)), ok_chgI D2 TC nCC hd, D2.bindsN fun _ _ _ _ _ _ us hl => match us, hl with | [_, _, _], _ => rfl, kb1 D2 vals_rev fun _ _ _ _ _ _ _ ws hl => match ws, hl with | [_, _], _ => rfl⟩,
    ⟨_, _, He.mkr_ok (c.fact (by unfold fa; simp)), ok_takeI D4 TT, D4.bindsN fun _ _ _ _ _ _ us hl => match us, hl with | [_, _], _ => rfl, kb1 D4 vals_rev fun _ _ _ _ _ _ _ ws hl => match ws, hl with | [_], _ => rfl⟩,
    ⟨rdP, cvP⟩, ⟨rdC, cvC⟩, ⟨rdT, cvT⟩⟩ M
end Lw

open PySem PySem.W PyProof.Rows in
theorem PySem.Challenge.cw_filteredcopies_k31_messages_made_holds : PySem.Challenge.rw_filteredcopies_k31_messages_made.Holds := by
  w_on; o_law
  refine HandSHeadRun.head_any (r := Lw.R) (q := Lw.qv) (H := Lw.hk) (ob := Lw.ob) (M := 9000) (loose := Lw.names) (d := HandSHeadRun.topDef Lw.R.prog 17) (kwd := []) Lw.ob_eq
    (by kernel_rfl) (fun s => by kernel_rfl) Lw.run (by kernel_rfl) (by kernel_rfl) (by kernel_rfl) (by rfl) (by first | assumption | decide +kernel) (by decide +kernel) ⟨rfl, rfl, rfl, rfl, rfl, by decide +kernel⟩ ?hw ?hc
  case hw => w_witness2
  case hc =>
    refine L2.walk_ofE (l := PySem.Challenge.rw_filteredcopies_k31_messages_made) (n := 63) (k := 4) (x := "script") (CX := L2.CX0) rfl (by decide) (by kernel_rfl) ⟨rfl, by decide, by decide⟩ ?F (fun _ _ _ _ z => z)
    intro w mg fa h Y G hmg0
    obtain ⟨K, KX, c⟩ := Y
    have hmg : mg ("law" : PySem.Str) = some (.ref fa) := by
      have e : (HandSHeadRun.topDef Lw.R.prog 17).name = ("law" : PySem.Str) := by kernel_rfl
      rw [← e]
      exact hmg0
    obtain ⟨fd, hb, hF⟩ := Lw.facts (P := (PySem.Challenge.rw_filteredcopies_k31_messages_made).prog) (w := w) KX G hmg c
    exact ⟨K, fd, Lw.spLaw K, KX, hb, fun H a ns hl _ hS => ⟨a, ns, rfl, hS, hl, fun _ => rfl⟩, hF⟩
