import PyProof.Rows.All
import Wide.All
import OpenK.AllK
import Wide.FinOn
import HandS.Base
import HandS.Call
import HandS.List
import HandS.Comp
import HandS.Dict
import HandS.Iter
import HandS.Text
import HandS.Ends
import HandS.Words
import HandS.WordsList
import HandS.Exc
import HandS.ExcOwn
import HandS.TryOnly
import HandS.ExcInit
import HandS.More
import HandS.Defaults
import HandS.Walk
import KE.KExcIs
import HandS.IsInst
import HandS.ExcIs
import HandS.ExcField
import HandS.Style
import HandS.WordsExc
import HandS.Head0
import HandS.Head1
import HandS.Head2
import HandS.HeadEnd
import HandS.HeadHook1
import HandS.HeadHook2
import HandS.HeadHook3
import HandS.ExcCtx
import HandS.HotCalls
import HandS.ClsMeth
import HandS.Star
import HandS.MakeKwOnly
import HandS.Wide
import HandS.ListItems
import HandS.Finally
import KE.KDictList
import PyProof.FactsAll.dict_3
import HandS.HeadNt
import HandS.Property
import KE.KEqNest
import KE.KDictLaw
import HandS.DictComp
import HandS.OwnEq
import PySem.Challenge.RW_filteredcopies_k32_messages_equal
set_option Elab.async false
set_option linter.all false
set_option maxRecDepth 100000
set_option maxHeartbeats 4000000
namespace Lw
open PySem PySem.Spec PyProof.Rows L2
abbrev MethD (K : PySem.W.Frag) (x q : Str) (st : Stmt) (f : Addr) (fd : FuncData) : Prop := FunD K x q (defArgs st) (defBody st) (defScope st) [] [] f fd
/-! heaps: all but what stands at a is kept -/
def Keep (a : Addr) (H H' : Hp) : Prop := ∀ b o, b ≠ a → H b = some o → H' b = some o
theorem Keep.refl {a : Addr} (H : Hp) : Keep a H H := fun _ _ _ h => h
theorem Keep.trans {a : Addr} {H H1 H2 : Hp} (x : Keep a H H1) (y : Keep a H1 H2) : Keep a H H2 := fun b o n h => y b o n (x b o n h)
theorem Keep.of_same {a : Addr} {H H' : Hp} (s : Same H H') : Keep a H H' := fun b o _ h => s b o h
theorem Keep.upd {a : Addr} {H H' : Hp} {o : HO} (k : Keep a H H') : Keep a H (upd H' a o) := fun b u n h => by
  rw [upd_ne n]
  exact k b u n h
theorem Keep.new {a p : Addr} {H H' : Hp} {o : HO} (k : Keep a H H') (hp : H' p = none) : Keep a H (L2.upd H' p o) := fun b u n h => by
  rw [upd_ne (ne_of_none (k b u n h) hp)]
  exact k b u n h
theorem Keep.seq {K : PySem.W.Frag} {a b : Addr} {H H' : Hp} {xs : List V} (k : Keep a H H') (n : b ≠ a) (h : SqL K H b xs) : SqL K H' b xs := by
  rcases h with (h | ⟨o, h⟩) | h
  · exact .inl (.inl (k _ _ n h))
  · exact .inl (.inr ⟨o, k _ _ n h⟩)
  · exact .inr h
theorem Keep.seqT {K : PySem.W.Frag} {a b : Addr} {H H' : Hp} {xs : List V} (k : Keep a H H') (n : b ≠ a) (h : SqT K H b xs) : SqT K H' b xs := by
  rcases h with (h | ⟨o, h⟩) | h
  · exact .inl (.inl (k _ _ n h))
  · exact .inl (.inr ⟨o, k _ _ n h⟩)
  · exact .inr h
/-- the drawing's source: three numbers; n bounds how often was drawn -/
def Src (H : Hp) (a : Addr) (n : Nat) : Prop := ∃ d s t : Int, H a = some (.lst [.int d, .int s, .int t]) ∧ 0 ≤ d ∧ 0 ≤ s ∧ s < 9223372036854775808 ∧ 0 ≤ t ∧ t ≤ (n : Int)
theorem Src.mono {H : Hp} {a : Addr} {n m : Nat} (h : Src H a n) (l : n ≤ m) : Src H a m := by
  obtain ⟨d, s, t, h1, h2, h3, h4, h5, h6⟩ := h
  exact ⟨d, s, t, h1, h2, h3, h4, h5, by omega⟩
theorem Src.new {H : Hp} {a p : Addr} {n : Nat} {o : HO} (h : Src H a n) (hp : H p = none) : Src (upd H p o) a n := by
  obtain ⟨d, s, t, h1, h2⟩ := h
  exact ⟨d, s, t, by rw [upd_ne (ne_of_none h1 hp)]; exact h1, h2⟩
theorem Src.ne {H : Hp} {a p : Addr} {n : Nat} (h : Src H a n) (hp : H p = none) : p ≠ a := by
  obtain ⟨d, s, t, h1, _⟩ := h
  exact (ne_of_none h1 hp).symm
abbrev big : Nat := 1000000000
/-! steps: a statement's reading by what its expression comes to -/
section
variable {te : TE} {c : TT} {u v t1 t2 : TS} {D : Ends} {σ : L2.St} {H : Hp} {i : Nat}
theorem sq_set (P : V → Hp → Prop) (h : ∀ Q : VK, (∀ x H', P x H' → Q x H') → te σ H Q) (k : ∀ x H', P x H' → u D (σ.set i (some x)) H') : tSeq (tAsg te (gName i)) u D σ H := h _ k
theorem s1_set (P : V → Hp → Prop) (h : ∀ Q : VK, (∀ x H', P x H' → Q x H') → te σ H Q) (k : ∀ x H', P x H' → D.nx (σ.set i (some x)) H') : (tAsg te (gName i)) D σ H := h _ k
theorem sq_par {j : Nat} {ta : TA} (P : V → V → Hp → Prop) (h : ∀ Q : List V → Hp → Prop, (∀ x y H', P x y H' → Q [x, y] H') → ta σ H Q) (k : ∀ x y H', P x y H' → u D ((σ.set i (some x)).set j (some y)) H') : tSeq (tPar i j ta) u D σ H := h _ fun x y H' p => ⟨x, y, rfl, k x y H' p⟩
theorem sq_do (P : V → Hp → Prop) (h : ∀ Q : VK, (∀ x H', P x H' → Q x H') → te σ H Q) (k : ∀ x H', P x H' → u D σ H') : tSeq (tDrop te) u D σ H := h _ k
theorem sq_if (P : Bool → Hp → Prop) (h : ∀ Q : Bool → Hp → Prop, (∀ b H', P b H' → Q b H') → c σ H Q) (kt : ∀ H', P true H' → t1 { D with nx := u D } σ H') (kf : ∀ H', P false H' → t2 { D with nx := u D } σ H') : tSeq (tIfS c t1 t2) u D σ H :=
  h _ fun b H' p => by
    cases b with
    | true => rw [if_pos rfl]; exact kt H' p
    | false => rw [if_neg Bool.false_ne_true]; exact kf H' p
theorem sq_if1 (P : Bool → Hp → Prop) (h : ∀ Q : Bool → Hp → Prop, (∀ b H', P b H' → Q b H') → c σ H Q) (kt : ∀ H', P true H' → t1 { D with nx := u D } σ H') (kf : ∀ H', P false H' → u D σ H') : tSeq (tIfS c t1 tNext) u D σ H := sq_if P h kt kf
theorem s1_if (P : Bool → Hp → Prop) (h : ∀ Q : Bool → Hp → Prop, (∀ b H', P b H' → Q b H') → c σ H Q) (kt : ∀ H', P true H' → t1 D σ H') (kf : ∀ H', P false H' → t2 D σ H') : (tIfS c t1 t2) D σ H :=
  h _ fun b H' p => by
    cases b with
    | true => rw [if_pos rfl]; exact kt H' p
    | false => rw [if_neg Bool.false_ne_true]; exact kf H' p
theorem s1_ret (P : V → Hp → Prop) (h : ∀ Q : VK, (∀ x H', P x H' → Q x H') → te σ H Q) (k : ∀ x H', P x H' → D.rt x H') : tRet te D σ H := h _ k
end
/-! promises -/
def spSource (K : PySem.W.Frag) : Sp := fun vs H Q _ => ∃ (a : Addr) (ns : List Int) (i : Int), vs = [.ref a, .int i] ∧ SqL K H a (ns.map V.int) ∧ ns.length ≤ 1000 ∧ 0 ≤ i ∧ i ≤ 1000 ∧
  ∀ p H', H p = none → Same H H' → Src H' p 0 → Q (.ref p) H'
def spDraw : Sp := fun vs H Q _ => ∃ (a : Addr) (n : Nat) (m : Int), vs = [.ref a, .int m] ∧ Src H a n ∧ n ≤ 1000000000 ∧ 0 < m ∧ m ≤ 1000000000 ∧
  ∀ H' i, Keep a H H' → Src H' a (n + 1) → 0 ≤ i → i < m → Q (.int i) H'
def spOf (K : PySem.W.Frag) : Sp := fun vs H Q _ => ∃ (a b : Addr) (n : Nat) (xs : List V), vs = [.ref a, .ref b] ∧ Src H a n ∧ n ≤ 1000000000 ∧ b ≠ a ∧ SqL K H b xs ∧ xs ≠ [] ∧ xs.length ≤ 100000 ∧
  ∀ H' x, Keep a H H' → Src H' a (n + 1) → x ∈ xs → Q x H'
def spNumber : Sp := fun vs H Q _ => ∃ (a : Addr) (n : Nat), vs = [.ref a] ∧ Src H a n ∧ n ≤ 900000000 ∧
  ∀ H' i, Keep a H H' → Src H' a (n + 8) → Q (.int i) H'
structure TxtD (mg : Str → Option Value) : Prop where
  len : mg "len" = none
  abs : mg "abs" = none
  int : mg "int" = none
  range : mg "range" = none
abbrev FnP (K : PySem.W.Frag) (x : Str) (st : Stmt) (f : Addr) (fd : FuncData) : Prop := FunD K x x (defArgs st) (defBody st) (defScope st) [] [] f fd
section
variable {P : Program} {w : World} {K : PySem.W.Frag} {mg : Str → Option Value} {base : Heap}
theorem bool_ite {c : Prop} [Decidable c] {A B : Prop} (h1 : c → A) (h2 : ¬ c → B) : if decide c = true then A else B := by
  by_cases h : c
  · rw [decide_eq_true h, if_pos rfl]; exact h1 h
  · rw [decide_eq_false h, if_neg Bool.false_ne_true]; exact h2 h
theorem atI_get {α : Type} {xs : List α} {i : Int} (h0 : 0 ≤ i) (h1 : i < xs.length) : ∃ x, atI xs i = some x ∧ x ∈ xs := by
  have e : i.toNat < xs.length := by omega
  refine ⟨xs[i.toNat], ?_, List.getElem_mem e⟩
  unfold atI ixN
  rw [if_pos h0, if_pos h1]
  simp [e]
theorem fmod_src (x : Int) : 0 ≤ x.fmod 2305843009213693951 ∧ x.fmod 2305843009213693951 < 2305843009213693951 :=
  ⟨Int.fmod_nonneg_of_pos x (by decide), Int.fmod_lt_of_pos x (by decide)⟩

/-! a def of the top, called by its name -/
def DefIs (K : PySem.W.Frag) (mg : Str → Option Value) (x : Str) (st : Stmt) : Prop := ∃ f fd, mg x = some (.ref f) ∧ FnP K x st f fd
structure Cal (P : Program) (w : World) (K : PySem.W.Frag) (mg : Str → Option Value) (base : Heap) (CX : CXT) (x : Str) (k : Nat) (ps : List Str) (sp : Sp) : Prop where
  ex : ∃ f fd, mg x = some (.ref f) ∧ PySem.W.keepIn K (.ref f) = true ∧ FnOk P w K mg base CX k f fd ps sp ∧ Binds K fd ps []
end
section
variable {X : Cx} {x : Str} {p pos : Pos} {e : Expr} {es : List Expr} {t : TA} {k : Nat} {ps : List Str} {sp : Sp}
theorem pe_cal (c : Cal X.prog X.w X.K X.mg X.base CX0 x k ps sp) (hr : Room k X.A) (ha : PA X (e :: es) t) (hg : Gl X x := by rfl) (hdb : (x == ("__debug__" : Str)) = false := by decide)
    (he : starEach (e :: es) X.env = (false, eval e X.env) :: starEach es X.env := by rfl) (hpl : (backTo pos (starEach es X.env)).any (·.1) = false := by rfl) :
    PE X (.Call (.Name x p) (e :: es) [] pos) (tCall sp [] E0 t) := by
  obtain ⟨f, fd, hm, hk, F, b⟩ := c.ex
  exact pe_call F hr hg hm hk b .nil pass0 ha hdb he hpl
end
section
variable {P : Program} {w : World} {K : PySem.W.Frag} {mg : Str → Option Value} {base : Heap}
end
/-! words -/
def IsWord (z : Str) : Prop := 1 ≤ z.length ∧ z.length ≤ 8 ∧ ∀ c ∈ z.cps.toList, 97 ≤ c ∧ c ≤ 122
def abc : List Nat := [97, 98, 99, 100, 101, 102, 103, 104, 105, 106, 107, 108, 109, 110, 111, 112, 113, 114, 115, 116, 117, 118, 119, 120, 121, 122]
def sign (c : Nat) : Str := ⟨#[c]⟩
abbrev letters : Str := "abcdefghijklmnopqrstuvwxyz"
theorem letters_eq : letters = ⟨abc.toArray⟩ := by decide +kernel
theorem abc_le {c : Nat} (h : c ∈ abc) : 97 ≤ c ∧ c ≤ 122 := by
  have h2 : ∀ c ∈ abc, 97 ≤ c ∧ c ≤ 122 := by decide
  exact h2 c h
theorem tl_sign (c : Nat) : (sign c).cps.toList = [c] := rfl
theorem joinL_flat : ∀ l : List (List Nat), TL.joinL [] l = l.flatten
  | [] => rfl
  | [p] => by simp [TL.joinL]
  | p :: q :: r => by
    show p ++ ([] ++ TL.joinL [] (q :: r)) = _
    rw [joinL_flat (q :: r)]
    simp
theorem join_signs (e : Str) (he : e.cps = #[]) (cs : List Nat) : (Txt.join e (cs.map sign)).cps.toList = cs := by
  rw [TL.join_eq]
  have h : (Str.join e (cs.map sign)).cps.toList = TL.joinL e.cps.toList ((cs.map sign).map fun z => z.cps.toList) := TL.tl_join e (cs.map sign)
  rw [h, he]
  show TL.joinL [] _ = _
  rw [joinL_flat, List.map_map]
  clear h
  induction cs with
  | nil => rfl
  | cons c r ih =>
    rw [List.map_cons, List.flatten_cons, ih]
    rfl
theorem nodup_le : ∀ {l ts : List Str}, l.Nodup → (∀ x ∈ l, x ∈ ts) → l.length ≤ ts.length
  | [], _, _, _ => Nat.zero_le _
  | x :: l, ts, hn, hs => by
    have hx : x ∈ ts := hs x List.mem_cons_self
    have hn2 := List.nodup_cons.mp hn
    have ih := nodup_le (l := l) (ts := ts.erase x) hn2.2 fun y hy => by
      have ne : y ≠ x := fun e => hn2.1 (e ▸ hy)
      exact (List.mem_erase_of_ne ne).mpr (hs y (List.mem_cons_of_mem _ hy))
    rw [List.length_erase_of_mem hx] at ih
    have pos : 0 < ts.length := List.length_pos_of_mem hx
    simp only [List.length_cons]
    omega
def cand (w : Str) (c : Nat) : Str := cutS (sign c ++ w) none (some 8)
theorem tl_app (a b : Str) : (a ++ b).cps.toList = a.cps.toList ++ b.cps.toList := by
  rw [PySem.Str.cps_append, Array.toList_append]
theorem len_tl (a : Str) : a.length = a.cps.toList.length := by simp [Str.length]
theorem cand_tl (w : Str) (c : Nat) : (cand w c).cps.toList = (c :: w.cps.toList).take 8 := by
  unfold cand cutS
  have e : (sign c ++ w).cps.toList = c :: w.cps.toList := tl_app _ _
  have l : (sign c ++ w).length = w.cps.toList.length + 1 := by rw [len_tl, e]; rfl
  rw [e, l]
  have h8 : HT.sIx (w.cps.toList.length + 1) (w.cps.toList.length + 1) (some 8) = min 8 (w.cps.toList.length + 1) := HT.sIx_nat _ _ 8
  rw [h8]
  show (List.take (min 8 (w.cps.toList.length + 1) - 0) (List.drop 0 (c :: w.cps.toList))) = _
  rw [Nat.sub_zero, List.drop_zero]
  have : (c :: w.cps.toList).length = w.cps.toList.length + 1 := rfl
  rw [← this, ← List.take_eq_take_min]
theorem cand_word {w : Str} {c : Nat} (h : IsWord w) (hc : c ∈ abc) : IsWord (cand w c) := by
  have e := cand_tl w c
  obtain ⟨h1, h2, h3⟩ := h
  rw [len_tl] at h1 h2
  refine ⟨?_, ?_, fun d hd => ?_⟩
  · rw [len_tl, e]; simp
  · rw [len_tl, e]; simp; omega
  · rw [e] at hd
    rcases List.mem_cons.mp (List.mem_of_mem_take hd) with q | q
    · rw [q]; exact abc_le hc
    · exact h3 d q
theorem cand_inj {w : Str} {c d : Nat} (h : cand w c = cand w d) : c = d := by
  have e : (cand w c).cps.toList = (cand w d).cps.toList := by rw [h]
  rw [cand_tl, cand_tl] at e
  simpa using e
theorem free_some (w : Str) (ts : List Str) (h : ts.length ≤ 25) : abc.filter (fun c => !decide (cand w c ∈ ts)) ≠ [] := by
  intro e
  have ha : ∀ c ∈ abc, cand w c ∈ ts := fun c hc => by
    have := List.filter_eq_nil_iff.mp e c hc
    simpa using this
  have nd : (abc.map (cand w)).Nodup := by
    have h0 : abc.Nodup := by decide
    exact List.Pairwise.map _ (fun a b ne q => ne (cand_inj q)) h0
  have l := nodup_le nd (ts := ts) (fun x hx => by
    obtain ⟨c, hc, rfl⟩ := List.mem_map.mp hx
    exact ha c hc)
  rw [List.length_map] at l
  have : abc.length = 26 := rfl
  omega
theorem inV_str (w : Str) (ts : List Str) : inV (.str w) (ts.map V.str) = decide (w ∈ ts) := by
  unfold inV
  rw [List.any_map]
  apply Bool.eq_iff_iff.mpr
  simp only [List.any_eq_true, Function.comp, decide_eq_true_eq]
  constructor
  · rintro ⟨y, hy, e⟩
    have e2 : (y == w) = true := e
    exact (eq_of_beq e2) ▸ hy
  · intro h
    exact ⟨w, h, beq_self_eq_true w⟩
theorem flat_strs (ts : List Str) : (ts.map V.str).all flatV = true := by
  rw [List.all_map]
  exact List.all_eq_true.mpr fun _ _ => rfl
abbrev nWord : List Str := ["source", "taken", "letters", "word", "free", "turn", "letter"]
def spWord (K : PySem.W.Frag) : Sp := fun vs H Q _ => ∃ (a b : Addr) (n : Nat) (ts : List Str), vs = [.ref a, .ref b] ∧ Src H a n ∧ n ≤ 900000000 ∧ b ≠ a ∧ SqL K H b (ts.map V.str) ∧ ts.length ≤ 25 ∧
  ∀ H' w, Keep a H H' → Src H' a (n + 10) → IsWord w → w ∉ ts → Q (.str w) H'
section
variable {P : Program} {w : World} {K : PySem.W.Frag} {mg : Str → Option Value} {base : Heap}
theorem str_notmem {z : Str} {ts : List Str} {A B : Prop} (h1 : z ∉ ts → A) (h2 : z ∈ ts → B) : if (if true = true then !inV (.str z) (ts.map V.str) else inV (.str z) (ts.map V.str)) = true then A else B := by
  rw [if_pos rfl, inV_str]
  by_cases h : z ∈ ts
  · rw [decide_eq_true h, Bool.not_true, if_neg Bool.false_ne_true]; exact h2 h
  · rw [decide_eq_false h, Bool.not_false, if_pos rfl]; exact h1 h
theorem letters_cps : letters.cps = abc.toArray := by rw [letters_eq]
theorem abc_at {i : Int} (h0 : 0 ≤ i) (h1 : i < 26) : ∃ c, atI letters.cps.toList i = some c ∧ c ∈ abc := by
  rw [letters_cps]
  exact atI_get (xs := abc) h0 (by show i < 26; exact h1)
end
/-! isinstance of a caught error that has its own dict -/
def rIsED (K : PySem.W.Frag) (cls : Value) (d : Option Addr) (a : Addr) : List V → Hp → VK → Prop := fun xs H Q =>
  ∃ (D dd : Addr) (c : V) (cv : Value) (b : Bool) (fs : List (Str × V)), cls = .ref D ∧ d = some dd ∧ ExcC K D ∧ xs = [.ref a, c] ∧ (∀ u, RelV c u → u = cv) ∧ H dd = some (.xd fs) ∧ PySem.W.kitOne K (.ref D) cv = some b ∧ Q (.bl b) H
theorem call_isED {X : Cx} {a : Addr} {cls : Value} {d : Option Addr} {oe : Obj} {pn : List (Addr × Obj)} (hz : Zc cls d oe) (hf : ∃ vs, oe.data = .fields vs) :
    CallR (X.suite a ((a, oe) :: pn)) (.builtin "isinstance") (rIsED X.K cls d a) := by
  intro pins s σ H xs us Q I r h
  obtain ⟨D, dd, c, cv, b, fs, rfl, rfl, C, rfl, hcv, hdd, e, q⟩ := h
  obtain ⟨u1, u2, rfl, r1, r2⟩ := vals2 r
  obtain rfl : u1 = Value.ref a := r1
  obtain rfl := hcv _ r2
  have hp := (I.pin (a, oe) (List.mem_append_left _ List.mem_cons_self)).1
  obtain ⟨mA, hns, _⟩ := (show ObjOk X.prog X.w H s.heap dd (.xd fs) from I.hok dd _ hdd)
  obtain ⟨od, ho, _⟩ := lookIn_ns hns
  obtain ⟨vs, hv⟩ := hf
  have J : PySem.W.InstAt s.heap a oe D (some od) := ⟨hp, hz.1, by unfold PySem.W.notCls; rw [hv] <;> rfl, by rw [hz.2]; exact ho⟩
  have hc : (PySem.W.clsIn X.K D).isSome = true := by
    have z := C.hd
    unfold PySem.W.hasDictIn at z
    cases q : PySem.W.clsIn X.K D with
    | none => rw [q] at z; cases z
    | some y => rfl
  exact PySem.W.kia_one (PySem.W.kitx_exc hc C.hg C.hk C.hs C.ha C.hn C.ht C.hm) I.kIn J e (fun z => nomatch z) fun tk => ⟨.bl b, H, I.tok tk, rfl, q⟩
/-! f(k = v, ..), nothing by position, what it raises wished for at the caller's slots -/
def tCallKS (m : Nat) (sp : Sp) (gV : List V → List V → List V) (E : L2.St → XK) (tk : TA) : TE := fun σ H Q => tk σ H fun zs H2 => zs.length = m ∧ sp (gV [] zs) H2 Q (E σ)
section
variable {X : Cx} {CX : CXT} {k : Nat} {f : Addr} {fd : FuncData} {ps ks : List Str} {sp : Sp} {E : L2.St → XK} {x : Str} {p pos : Pos} {kws : List Keyword} {tk : TA} {g : List Value → List Value → List Value} {gV : List V → List V → List V}
theorem pe_callKS (F : FnOk X.prog X.w X.K X.mg X.base CX k f fd ps sp) (hr : Room k X.A) (hm : X.mg x = some (.ref f)) (hk : PySem.W.keepIn X.K (.ref f) = true) (hb : KBn X.K fd ps 0 ks g gV) (hx : ∀ σ, PassesAt CX X σ (E σ)) (hkw : PK X kws tk)
    (hg : Gl X x := by rfl) (hall : (backToKw pos (keywordEach kws X.env)).all (·.1.isSome) = true := by rfl) (hks : (backToKw pos (keywordEach kws X.env)).filterMap (·.1) = ks := by rfl) (hdb : (x == ("__debug__" : Str)) = false := by decide)
    (hpl : ((backTo pos (starEach [] X.env)).any (·.1) || (backToKw pos (keywordEach kws X.env)).any (·.1.isNone)) = false := by rfl) :
    PE X (.Call (.Name x p) [] kws pos) (tCallKS ks.length sp gV E tk) := by
  refine ⟨fun pins s σ H Q I h => wpAny_Call_Name_kw (ld_glob I hg hm ?_ hdb)⟩
  refine PySem.W.callWith_KW0 (h₀ := X.base) I.ok.mod.kin hk hall (thn (hkw.run pos pins s σ H _ I h) fun ws s2 ⟨zs, H2, I2, rz, l2, q2⟩ => ⟨I2.kIn, ?_⟩) hpl
  rw [hks]
  have r2 := hb.rel .nil rz
  have bt := hb.to s2 [] ws I2.kIn rfl (rz.length.symm.trans l2)
  refine wpAny_call (codeAny_mono (F.run X.A X.stack s2 H2 ⟨[], ks.zip ws⟩ (g [] ws) (gV [] zs) Q (E σ) hr I2.env0 bt r2 q2) fun r s' hq => ?_)
  match r, hq with
  | .error e, hq => exact hx σ pins H2 s2 e s' I2 hq
  | .ok (.ret u), hq => exact I2.after hq
  | .ok .next, hq => exact hq.elim
  | .ok .brk, hq => exact hq.elim
  | .ok .cont, hq => exact hq.elim
end
structure TxtP (mg : Str → Option Value) : Prop where
  isi : mg "isinstance" = none
  int : mg "int" = none
  bool : mg "bool" = none
  str : mg "str" = none
  list : mg "list" = none
  tuple : mg "tuple" = none
  dict : mg "dict" = none
  len : mg "len" = none
  all : mg "all" = none
  longest : ∃ t, mg "LONGEST_WORD" = some (.int 8 t)
/-- a value of a built-in type t -/
def IsTy (K : PySem.W.Frag) (H : Hp) (v : V) (t : String) : Prop := TyX K H v (.type t)
def NotTy (K : PySem.W.Frag) (H : Hp) (v : V) (c : String) : Prop := ∃ t, TyX K H v (.type t) ∧ kitB t c = some false
def isWordB (z : Str) : Bool := decide (1 ≤ z.length) && (decide (z.length ≤ 8) && z.cps.toList.all fun c => decide (97 ≤ c) && decide (c ≤ 122))
theorem isWordB_iff (z : Str) : isWordB z = true ↔ IsWord z := by
  unfold isWordB IsWord
  simp only [Bool.and_eq_true, decide_eq_true_eq, List.all_eq_true]
theorem isWordB_true {z : Str} (h : IsWord z) : isWordB z = true := (isWordB_iff z).mpr h
theorem isWordB_false {z : Str} (h : ¬ IsWord z) : isWordB z = false := by
  cases e : isWordB z with
  | false => rfl
  | true => exact absurd ((isWordB_iff z).mp e) h
def spIsInteger (K : PySem.W.Frag) : Sp := fun vs H Q _ => ∃ (v : V) (b : Bool), vs = [v] ∧
  ((b = true ∧ ∃ i, v = .int i) ∨ (b = false ∧ ((∃ c, v = .bl c) ∨ NotTy K H v "int"))) ∧ Q (.bl b) H
def spIsWord (K : PySem.W.Frag) : Sp := fun vs H Q _ => ∃ (v : V) (b : Bool), vs = [v] ∧
  ((∃ z, v = .str z ∧ z.length ≤ 1000 ∧ b = isWordB z) ∨ (b = false ∧ NotTy K H v "str")) ∧ ∀ H', Same H H' → Q (.bl b) H'
def spCopied (K : PySem.W.Frag) : Sp := fun vs H Q _ => ∃ (v : V), vs = [v] ∧ NotTy K H v "list" ∧ NotTy K H v "tuple" ∧ NotTy K H v "dict" ∧ Q v H
section
variable {P : Program} {w : World} {K : PySem.W.Frag} {mg : Str → Option Value} {base : Heap}
theorem ty_int {H : Hp} (i : Int) : TyX K H (.int i) (.type "int") := .base (.int i)
theorem ty_bl {H : Hp} (i : Bool) : TyX K H (.bl i) (.type "bool") := .base (.bl i)
theorem ty_str {H : Hp} (i : Str) : TyX K H (.str i) (.type "str") := .base (.str i)
theorem ty_non {H : Hp} : TyX K H .non (.type "NoneType") := .base .non
theorem lt_sign (c d : Nat) : decide (([c] : List Nat) < [d]) = decide (c < d) := by
  have : (([c] : List Nat) < [d]) ↔ c < d := by
    rw [List.cons_lt_cons_iff]
    simp
  simp only [this]
end
theorem exc_end {H : Hp} {a C d : Addr} {fs : List (Str × V)} (na : H a = none) (nd : upd H a (exo a C none) d = none) (da : d ≠ a) :
    H d = none ∧ Same H (upd (del (upd (upd (upd H a (exo a C none)) d (exd d fs)) a (exo a C (some d))) a) d (.xd fs)) := by
  have n2 : H d = none := by rw [upd_ne da] at nd; exact nd
  refine ⟨n2, fun b o h => ?_⟩
  rw [upd_ne (ne_of_none h n2), del_ne (ne_of_none h na), upd_ne (ne_of_none h na), upd_ne (ne_of_none h n2), upd_ne (ne_of_none h na)]
  exact h
theorem Same.new {H H1 : Hp} {p : Addr} {o : HO} (s : Same H H1) (h : H1 p = none) : Same H (upd H1 p o) := fun b u e => by
  rw [upd_ne (ne_of_none (s b u e) h)]
  exact s b u e
section
variable {P : Program} {w : World} {K : PySem.W.Frag} {mg : Str → Option Value} {base : Heap}
theorem nt_str {H : Hp} (z : Str) : NotTy K H (.str z) "list" ∧ NotTy K H (.str z) "tuple" ∧ NotTy K H (.str z) "dict" :=
  ⟨⟨_, ty_str z, by decide +kernel⟩, ⟨_, ty_str z, by decide +kernel⟩, ⟨_, ty_str z, by decide +kernel⟩⟩
theorem NotTy.same {H H1 : Hp} {v : V} {c : String} (s : Same H H1) (h : NotTy K H v c) : NotTy K H1 v c := by
  obtain ⟨t, ht, k⟩ := h
  refine ⟨t, ?_, k⟩
  cases ht with
  | base b => cases b with
    | non => exact .base .non
    | bl y => exact .base (.bl y)
    | int i => exact .base (.int i)
    | str y => exact .base (.str y)
    | flt y => exact .base (.flt y)
    | lst e => exact .base (.lst (s _ _ e))
    | frz e => exact .base (.frz (s _ _ e))
    | tup e => exact .base (.tup (s _ _ e))
    | dK e => exact .base (.dK (s _ _ e))
    | dT e => exact .base (.dT (s _ _ e))
  | byt b => exact .byt b
  | set e => exact .set (s _ _ e)
  | kList e c => exact .kList e c
  | kTuple e c => exact .kTuple e c
  | kDict e c => exact .kDict e c
  | fTuple e => exact .fTuple (s _ _ e)
  | fDict e => exact .fDict (s _ _ e)
theorem not_nt_str {H : Hp} {z : Str} (h : NotTy K H (.str z) "str") : False := by
  obtain ⟨t, ht, k⟩ := h
  generalize hv : V.str z = v at ht
  generalize hu : Value.type t = u at ht
  cases ht with
  | base b =>
    cases b with
    | str y =>
      cases hu
      exact absurd k (by decide +kernel)
    | _ => cases hv
  | _ => cases hv
end
def oddStrs : List Str := ["", "abcdefghi", "A", "aB", "a1", "a b", " a", "a_", "-"]
inductive Odd (a : Addr) (H : Hp) : V → Prop where
  | str {z : Str} (h : z ∈ oddStrs) : Odd a H (.str z)
  | non : Odd a H .non
  | int (i : Int) : Odd a H (.int i)
  | bl (b : Bool) : Odd a H (.bl b)
  | tup {p : Addr} {xs : List V} (n : p ≠ a) (h : H p = some (.tup xs)) (e : xs = [] ∨ xs = [.str "a"]) : Odd a H (.ref p)
  | lst {p : Addr} {xs : List V} (n : p ≠ a) (h : H p = some (.lst xs)) (e : xs = [] ∨ xs = [.str "a"]) : Odd a H (.ref p)
  | dic {p : Addr} (n : p ≠ a) (h : H p = some (.dK [(.inr "a", .str "b")])) : Odd a H (.ref p)
theorem Odd.keep {a : Addr} {H H' : Hp} {v : V} (k : Keep a H H') (h : Odd a H v) : Odd a H' v := by
  cases h with
  | str h => exact .str h
  | non => exact .non
  | int i => exact .int i
  | bl b => exact .bl b
  | tup n h e => exact .tup n (k _ _ n h) e
  | lst n h e => exact .lst n (k _ _ n h) e
  | dic n h => exact .dic n (k _ _ n h)
theorem odd_notword {K : PySem.W.Frag} {a : Addr} {H : Hp} {v : V} (h : Odd a H v) : (∃ z, v = .str z ∧ z.length ≤ 1000 ∧ ¬ IsWord z) ∨ NotTy K H v "str" := by
  cases h with
  | @str z h =>
    have e : ∀ z ∈ oddStrs, (decide (z.length ≤ 1000) && !isWordB z) = true := by decide +kernel
    have e2 := e z h
    simp only [Bool.and_eq_true, decide_eq_true_eq, Bool.not_eq_true'] at e2
    exact .inl ⟨z, rfl, e2.1, fun hw => by rw [isWordB_true hw] at e2; cases e2.2⟩
  | non => exact .inr ⟨_, ty_non, by decide +kernel⟩
  | int i => exact .inr ⟨_, ty_int i, by decide +kernel⟩
  | bl b => exact .inr ⟨_, ty_bl b, by decide +kernel⟩
  | tup n h e => exact .inr ⟨_, .base (.tup h), by decide +kernel⟩
  | lst n h e => exact .inr ⟨_, .base (.lst h), by decide +kernel⟩
  | dic n h => exact .inr ⟨_, .base (.dK h), by decide +kernel⟩
theorem same_new2 {H : Hp} {p : Addr} {o u : HO} (n : H p = none) : Same H (upd (upd H p o) p u) := fun b x h => by
  rw [upd_ne (ne_of_none h n), upd_ne (ne_of_none h n)]
  exact h
def spOdd : Sp := fun vs H Q _ => ∃ (a : Addr) (n : Nat), vs = [.ref a] ∧ Src H a n ∧ n ≤ 900000000 ∧ ∀ H' v, Keep a H H' → Src H' a (n + 1) → Odd a H' v → Q v H'
theorem Src.same {H H1 : Hp} {a : Addr} {n : Nat} (s : Same H H1) (h : Src H a n) : Src H1 a n := by
  obtain ⟨d, x, t, h1, h2⟩ := h
  exact ⟨d, x, t, s _ _ h1, h2⟩
section
variable {P : Program} {w : World} {K : PySem.W.Frag} {mg : Str → Option Value} {base : Heap}
end
theorem kb_of {K : PySem.W.Frag} {x qual : Str} {params : Arguments} {body : List Stmt} {scope : Scope} {kws : List (Str × V)} {f : Addr} {fd : FuncData} {ps : List Str} (F : FunD K x qual params body scope [] kws f fd)
    (h : ∀ (kV doc pm : Value) (an : Option Addr) (cdv ct : Value) (ws : List Value), ws.length = ps.length → bindArgs (PySem.W.fnOf x qual params body scope .none kV doc pm an cdv ct) ⟨[], ps.zip ws⟩ = pure (ps.zip ws)) : KBn K fd ps 0 ps (fun _ ws => ws) (fun _ zs => zs) := by
  obtain ⟨oc, od, dV, kV, doc, pm, an, cdv, ct, osl, rfl, lk, hcd, hD, hK⟩ := F.ex
  rcases hD with ⟨_, rfl⟩ | ⟨e, _⟩
  · exact ⟨fun s us ws _ l1 l2 => by
      obtain rfl : us = [] := List.length_eq_zero_iff.mp l1
      exact .of_eq (h kV doc pm an cdv ct ws l2), fun _ r => r⟩
  · exact absurd rfl e
end Lw
namespace Hk
open PySem PySem.Spec PyProof.Rows L2
/-! a Hook: facts, defs, tables, one Bool more -/
abbrev Al : Type := He.AlT × Bool
def obG (n : Nat) (fa : List He.Fa) (fn : List He.DefD) (ts : List He.Tab) (own : PySem.W.Frag → Bool) (g : Addr → Option Obj) : Al := (He.obsTG n fa fn ts g, own (He.frG g (He.asD g n)))
def Says (fa : List He.Fa) (fn : List He.DefD) (ts : List He.Tab) (own : PySem.W.Frag → Bool) (w : World) (K : PySem.W.Frag) : Prop := He.SaysT fa fn ts w K ∧ own K = true
def hook (n : Nat) (fa : List He.Fa) (fn : List He.DefD) (ts : List He.Tab) (own : PySem.W.Frag → Bool) : PySem.W.Hook where
  α := Al
  obs := fun s => obG n fa fn ts own s.heap.get?
  val := fun w => (He.valT fn ts w, true)
  says := fun w h => ∃ K : PySem.W.Frag, K.In h ∧ Says fa fn ts own w K
  of := fun _ _ e => ⟨_, He.frG_in, congrArg Prod.fst e, congrArg Prod.snd e⟩
  keeps := fun _ _ _ ⟨K, hK, c⟩ k => ⟨K, PySem.W.Frag.In.keeps hK k, c⟩
theorem obG_eq {n : Nat} {fa : List He.Fa} {fn : List He.DefD} {ts : List He.Tab} {own : PySem.W.Frag → Bool} {g : Addr → Option Obj} {s : Shared} (h : ∀ a, g a = s.heap.get? a) : obG n fa fn ts own g = (hook n fa fn ts own).obs s := by
  rw [show g = s.heap.get? from funext h] <;> rfl
/-- an own error class over ValueError with an own __init__ -/
def oexB (K : PySem.W.Frag) (C : Addr) : Bool := match K.lookup C with
  | some ⟨.type t, _, .cls ⟨_, _, .ref c :: bm, _, _, true, _, _, _, _, false⟩, sl⟩ => (decide (t = "type") && (decide (c = C) && PySem.HandSPX.refsVE bm)) && (match sl.toList with
    | [_, _, _, _, some (.builtin z), _] => decide (z = "ValueError.__new__")
    | _ => false)
  | _ => false
def clsB (K : PySem.W.Frag) (C : Addr) : Bool := oexB K C && (He.eqO (PySem.W.findIn K (.ref C) "__setattr__") (some (some (.builtin "object.__setattr__"))) && (decide (PySem.W.subIn K (.ref C) (.type "BaseException") = some true) &&
  (decide (PySem.W.typeIn K (.ref C) = some (.type "type")) && PySem.W.keepIn K (.ref C))))
theorem oexB_ok {K : PySem.W.Frag} {C : Addr} (h : clsB K C = true) : OexC K C := by
  obtain ⟨h1, h⟩ := He.ba h
  obtain ⟨h2, h⟩ := He.ba h
  obtain ⟨h3, h⟩ := He.ba h
  obtain ⟨h4, h5⟩ := He.ba h
  refine ⟨?_, He.eqO_ok h2, of_decide_eq_true h3, of_decide_eq_true h4, h5⟩
  unfold oexB at h1
  split at h1
  · rename_i t dd nm bs c bm N qn sn sub ab col sl e
    obtain ⟨q1, q2⟩ := He.ba h1
    obtain ⟨q3, q4⟩ := He.ba q1
    obtain ⟨q5, q6⟩ := He.ba q4
    have e1 := of_decide_eq_true q3
    have e2 := of_decide_eq_true q5
    subst e1 e2
    split at q2
    · rename_i k0 k1 k2 k3 z k5 es
      have e3 := of_decide_eq_true q2
      subst e3
      obtain ⟨sl⟩ := sl
      simp only at es
      subst es
      exact ⟨nm, qn, N, bs, bm, sn, sub, ab, col, dd, k0, k1, k2, k3, k5, e, q6⟩
    · cases q2
  · cases h1
/-- isinstance asks its instances rightly -/
def excB (K : PySem.W.Frag) (D : Addr) : Bool := L2.xfB K D && (He.eqO (PySem.W.findIn K (.ref D) "__class__") (some (some (.builtin "object.__class__"))) && (decide (PySem.W.mroIn K D (.type "object") = some true) && getB K))
where getB (K : PySem.W.Frag) : Bool := decide (PySem.W.specialIn K (.builtin "object.__class__") "__get__" = some (some (.builtin "getset_descriptor.__get__"))) && decide (PySem.W.takesIn K (.builtin "object.__class__") = some true)
theorem excB_ok {K : PySem.W.Frag} {D : Addr} (h : excB K D = true) : ExcC K D ∧ XfC K D := by
  obtain ⟨h1, h⟩ := He.ba h
  obtain ⟨h2, h⟩ := He.ba h
  obtain ⟨h3, h⟩ := He.ba h
  obtain ⟨h4, h5⟩ := He.ba h
  have x := L2.xfB_ok h1
  exact ⟨⟨x.ga, x.gg, x.exC, x.hdC, He.eqO_ok h2, of_decide_eq_true h4, of_decide_eq_true h5, of_decide_eq_true h3⟩, x⟩
/-- isinstance of an own class's instances -/
def insB (K : PySem.W.Frag) (D : Addr) : Bool := He.eqO (PySem.W.findIn K (.ref D) "__class__") (some (some (.builtin "object.__class__"))) && (decide (PySem.W.mroIn K D (.type "object") = some true) && excB.getB K)
end Hk

set_option Elab.async false
set_option linter.all false
set_option maxRecDepth 100000
set_option maxHeartbeats 4000000
namespace Lw
open PySem PySem.Spec PyProof.Rows L2
/-! an own error with an own __init__, made: its context is None -/
section
variable {X : Cx} {CX : CXT} {x : Str} {e : Expr} {es : List Expr} {ta : TA} {p pos : Pos} {C fI : Addr} {k : Nat} {fd : FuncData} {ps : List Str} {sp : Sp} {ds : List Value} {dvs : List V}
theorem pmk_oexN (T : OexC X.K C) (iC : PySem.W.findIn X.K (.ref C) "__init__" = some (some (.ref fI))) (tI : PySem.W.typeIn X.K (.ref fI) = some (.type "function")) (F1 : FnOk X.prog X.w X.K X.mg X.base CX k fI fd ps sp) (hr : Room (k + 1) X.A) (hb : Binds X.K fd ps ds)
    (hd : Vals dvs ds) (hx : Passes CX X (fun _ _ _ => False)) (hm : X.mg x = some (.ref C)) (ha : PA X (e :: es) ta) (hg : Gl X x := by rfl) (hdb : (x == ("__debug__" : Str)) = false := by decide) (he : starEach (e :: es) X.env = (false, eval e X.env) :: starEach es X.env := by rfl)
    (hpl : (backTo pos (starEach es X.env)).any (·.1) = false := by rfl) : L2N.PMk X (.Call (.Name x p) (e :: es) [] pos) (tMkO C sp dvs ta) := fun pins s σ H Q I h => by
  obtain ⟨nm, qn, N, bs, bm, sn, sub, ab, col, dd, k0, k1, k2, k3, k5, hC, hbm⟩ := T.cls
  refine wpAny_Call_Name_kw (ld_glob I hg hm (PySem.W.callWith_K (h₀ := X.base) I.ok.mod.kin T.kC (thn (ha.run pos pins s σ H _ I h) fun us st ⟨vs, H1, J, rv, hz, q1⟩ => ⟨J.kIn, ?_⟩) he hpl) hdb)
  show wpAny _ _ (call (.ref C) us) _ _ _
  obtain ⟨hp, g, dr, tk, os⟩ := st
  have up : hp.objs.size ≤ hp.objs.size + 1 := by omega
  have spec := q1 (hp.objs.size + 1) (J.hok.fresh up)
  have stay : ∀ b o, hp.get? b = some o → ((hp.push (PySem.W.kdv_tup us)).push (PySem.HandSPX.excO C hp.objs.size)).get? b = some o := fun b o z => Heap.get?_push_of_some _ (Heap.get?_push_of_some _ z)
  have there : ((hp.push (PySem.W.kdv_tup us)).push (PySem.HandSPX.excO C hp.objs.size)).get? (hp.objs.size + 1) = some (PySem.HandSPX.excO C hp.objs.size) := by heap_get
  have J2 := J.laid (t' := tk) (a := hp.objs.size + 1) (o := exo (hp.objs.size + 1) C none) (h' := (hp.push (PySem.W.kdv_tup us)).push (PySem.HandSPX.excO C hp.objs.size)) stay up (exo_ok there)
  have rel : Vals (V.ref (hp.objs.size + 1) :: (vs ++ dvs)) (Value.ref (hp.objs.size + 1) :: (us ++ ds)) := .cons rfl (rv.append hd)
  have len : (Value.ref (hp.objs.size + 1) :: us ++ ds).length = ps.length := (F1.len _ _ _ _ spec ▸ rel.length).symm
  have line : us.length ≤ sizeLine := by rw [← Paired.length rv, sizeLine_eq]; omega
  refine wpAny_call (PySem.HandSPX.call_own F.excBase_ValueError (fun Y => PySem.HandSPX.refsVE_contains Y bm hbm) (J.kIn _ _ hC) (PySem.W.looks_findIn J.kIn iC) (fun self => PySem.W.bind_fn J.kIn self tI) line
    (codeAny_mono (F1.run _ X.stack _ _ ⟨Value.ref (hp.objs.size + 1) :: us, []⟩ (Value.ref (hp.objs.size + 1) :: (us ++ ds)) _ _ (fun _ _ _ => False) (hr.make C us []) (J2.env0.make C us []) (hb _ (Value.ref (hp.objs.size + 1) :: us) J2.kIn len) rel spec) fun r s' back => ?_))
  match r, back with
  | .error er, back => exact hx pins σ _ _ er s' J2 back
  | .ok .next, back => exact back.elim
  | .ok .brk, back => exact back.elim
  | .ok .cont, back => exact back.elim
  | .ok (.ret u), back =>
    obtain ⟨v, H2, os2, bare2, un2, hok2, rv2, ev, d, fs, ea, ed, hd1, q2⟩ := back
    subst ev
    obtain ⟨h2, g2, d2, t2, os'⟩ := s'
    obtain ⟨t0, G, JG, kG, ge, hoe, na⟩ := mk_end0 (d2 := d2) (t2 := t2) J up stay un2 hok2 os2 bare2 ea ed hd1
    exact ⟨rv2, _, _, _, ⟨G, g2, d2, t2, os'⟩, _, .ref C, some d, rfl, JG, kG, ge, hoe, ⟨rfl, rfl, fun z ez => by cases ez; rfl⟩, rfl, rfl, na, rfl, bare2, raises_own T.exC T.tyC, q2⟩
/-! C(e, ..), C what a local name holds -/
def tMakeL (i : Nat) (C : Addr) (sp : Sp) (E : XK) (t : TA) : TE := fun σ H Q => σ[i]? = some (some (.ref C)) ∧ tMake C sp [] E t σ H Q
theorem pe_makeL {E : XK} {t : TA} {i f : Nat} (M : Mk X.K C f) (F : FnOk X.prog X.w X.K X.mg X.base CX k f fd ps sp) (hr : Room (k + 1) X.A) (hN : X.N[i]? = some x) (hv : Vis X.env.scope x) (hb : Binds X.K fd ps []) (hx : Passes CX X E) (ha : PA X (e :: es) t)
    (hdb : (x == ("__debug__" : Str)) = false := by decide) (hcd : (x == ("__classdict__" : Str)) = false := by decide) (he : starEach (e :: es) X.env = (false, eval e X.env) :: starEach es X.env := by rfl) (hpl : (backTo pos (starEach es X.env)).any (·.1) = false := by rfl) :
    PE X (.Call (.Name x p) (e :: es) [] pos) (tMakeL i C sp E t) := ⟨fun pins s σ H Q I ⟨hs, ht⟩ => by
  refine wpAny_Call_Name_kw (thn ((pe_var (pos := p) hN hv hdb hcd).run pins s σ H (fun v H1 => v = .ref C ∧ H1 = H) I ⟨.ref C, hs, rfl, rfl⟩) fun u s1 ⟨v, H1, J, r1, e1, e2⟩ => ?_)
  subst e1 e2
  obtain rfl : u = Value.ref C := r1
  exact PySem.W.callWith_K (h₀ := X.base) J.ok.mod.kin M.kp (thn (ha.run pos pins s1 σ H1 _ J ht) fun us s2 ⟨vs, H2, J2, r, q⟩ => ⟨J2.kIn, run_make M F hr hb .nil hx J2 r q⟩) he hpl⟩
/-! what a try's body lets out, whatever its slots are -/
def WL (X : Cx) (W : WX) : XK := fun cls d H => ∀ σ : L2.St, σ.length = X.N.length → W cls d σ H
theorem passL {W : WX} (tk : L2N.Takes X W) : Passes (L2N.CX X.prog X.w) X (WL X W) := fun pins σ H s u s' I c => by
  obtain ⟨a, B, H', cls, d, hu, fl, hok, ub, na, os, ag, hE⟩ := c
  exact tk u s' (L2N.XE.of_call (W := W) (E := fun c d H => W c d σ H) I (fun _ _ _ z => z) ⟨a, B, H', cls, d, hu, fl, hok, ub, na, os, ag, hE σ I.len⟩)
end
/-! a def called while an error is handled -/
theorem okH {CX : CXT} {P : Program} {w : World} {K : PySem.W.Frag} {mg : Str → Option Value} {base : Heap} {k : Nat} {x qual : Str} {params : Arguments} {bd : List Stmt} {scope : Scope} {dvs : List V} {kws : List (Str × V)} {f : Addr} {fd : FuncData} {N ps : List Str} {sp : Sp}
    (F : FunD K x qual params bd scope dvs kws f fd) (S : FnScope N ps scope) (len : ∀ vs H Q E, sp vs H Q E → vs.length = ps.length)
    (hb : ∀ (cdv : Value) (A : Around) (outer : List Env) (s : Shared) (H : Hp) (vs : List V) (Q : VK) (E : XK) (p : Addr × Obj), L2H.Hot1 A p → L2H.RoomH k (A.deeper (envOfC qual scope s.heap.objs.size f cdv)) → sp vs H Q E →
      ∃ t, PSs (L2H.cxH CX P w K mg base N qual scope f cdv A outer s H E p) bd t ∧ t { nx := fun _ H' => Q .non H', rt := Q } (start N vs) H) : L2H.FnH P w K mg base CX (k + 1) f fd ps sp := by
  obtain ⟨oc, od, dV, kV, doc, pm, an, cdv, ct, osl, rfl, lk, hcd, _, _⟩ := F.ex
  exact L2H.fn_ofH lk hcd S len fun A outer s H vs Q E p h1 h2 h3 => hb cdv A outer s H vs Q E p h1 h2 h3
end Lw

set_option Elab.async false
set_option linter.all false
set_option maxRecDepth 100000
set_option maxHeartbeats 4000000
namespace Lw
open PySem PySem.Spec PyProof.Rows L2
/-! the draws of the later laws: also out of very many -/
def spDrawW : Sp := fun vs H Q _ => ∃ (a : Addr) (n : Nat) (m : Int), vs = [.ref a, .int m] ∧ Src H a n ∧ n ≤ 1000000000 ∧ 0 < m ∧ m.natAbs < 2 ^ 200 ∧
  ∀ H' i, Keep a H H' → Src H' a (n + 1) → 0 ≤ i → i < m → Q (.int i) H'
theorem small_m {m : Int} (h : -1000000000000000000000 < m ∧ m < 1000000000000000000000) : m.natAbs < 2 ^ 200 := by omega
/-! a tuple that the module holds -/
def tupB (K : PySem.W.Frag) (a : Addr) (xs : List V) : Bool := match K.lookup a with
  | some ⟨.type t, _, .seq its _, _⟩ => decide (t = "tuple") && (decide (its.size ≤ 1000) && decide (its.toList.map absV = xs.map some))
  | _ => false
theorem rel_of_abs {x : V} {u : Value} (h : absV u = some x) : RelV x u := by
  unfold absV at h
  split at h <;> first | cases h | skip
  all_goals first | rfl | exact ⟨_, rfl⟩
theorem vals_of_abs : ∀ {us : List Value} {xs : List V}, us.map absV = xs.map some → Vals xs us
  | [], [], _ => .nil
  | u :: us, x :: xs, h => by
    simp only [List.map_cons, List.cons.injEq] at h
    exact .cons (rel_of_abs h.1) (vals_of_abs h.2)
  | [], _ :: _, h => by cases h
  | _ :: _, [], h => by cases h
theorem tupB_ok {K : PySem.W.Frag} {a : Addr} {xs : List V} {H : Hp} (h : tupB K a xs = true) : SqT K H a xs := by
  unfold tupB at h
  split at h
  · rename_i t d its n sl e
    obtain ⟨h1, h2⟩ := He.ba h
    obtain ⟨h3, h4⟩ := He.ba h2
    have e1 := of_decide_eq_true h1
    have e2 := of_decide_eq_true h3
    have hs : sizeLine = 16777216 := by decide
    subst e1
    exact .inr ⟨_, its, n, e, rfl, rfl, by omega, vals_of_abs (of_decide_eq_true h4)⟩
  · cases h
end Lw
namespace Lw
open PySem PySem.Spec PyProof.Rows L2
theorem it_bf {b : Bool} {A B : Prop} (h : b = false) (x : B) : if b = true then A else B := by
  rw [h, if_neg Bool.false_ne_true]; exact x
theorem it_bt {b : Bool} {A B : Prop} (h : b = true) (x : A) : if b = true then A else B := by
  rw [h, if_pos rfl]; exact x
theorem str_mem {z : Str} {ts : List Str} {A B : Prop} (h1 : z ∈ ts → A) (h2 : z ∉ ts → B) : if inV (.str z) (ts.map V.str) = true then A else B := by
  rw [inV_str]
  by_cases h : z ∈ ts
  · rw [decide_eq_true h, if_pos rfl]; exact h1 h
  · rw [decide_eq_false h, if_neg Bool.false_ne_true]; exact h2 h
theorem kb_rel {K : PySem.W.Frag} {x qual : Str} {params : Arguments} {body : List Stmt} {scope : Scope} {kws : List (Str × V)} {f : Addr} {fd : FuncData} {ps ks : List Str} {g : List Value → List Value} {gV : List V → List V} (F : FunD K x qual params body scope [] kws f fd) (hr : ∀ {zs us}, Vals zs us → Vals (gV zs) (g us))
    (h : ∀ (kV doc pm : Value) (an : Option Addr) (cdv ct : Value) (ws : List Value), ws.length = ks.length → bindArgs (PySem.W.fnOf x qual params body scope .none kV doc pm an cdv ct) ⟨[], ks.zip ws⟩ = pure (ps.zip (g ws))) : KBn K fd ps 0 ks (fun _ ws => g ws) (fun _ zs => gV zs) := by
  obtain ⟨oc, od, dV, kV, doc, pm, an, cdv, ct, osl, rfl, lk, hcd, hD, hK⟩ := F.ex
  rcases hD with ⟨_, rfl⟩ | ⟨e, _⟩
  · exact ⟨fun s us ws _ l1 l2 => by
      obtain rfl : us = [] := List.length_eq_zero_iff.mp l1
      exact .of_eq (h kV doc pm an cdv ct ws l2), fun _ r => hr r⟩
  · exact absurd rfl e
theorem pass0S {X : Cx} : ∀ σ : L2.St, PassesAt CX0 X σ ((fun _ => E0 : L2.St → XK) σ) := fun _ _ _ _ _ _ _ h => h.elim
theorem same_at {H G : Hp} {D : Addr} {o : HO} (n : H D = none) (s : Same H G) : Same H (upd G D o) := fun b u h => by
  rw [upd_ne (ne_of_none h n)]
  exact s b u h
theorem g_name {i : Nat} {v : V} {σ : L2.St} {H : Hp} {Q : L2.St → Hp → Prop} (h : Q (σ.set i (some v)) H) : gName i v σ H Q := h
theorem vals_rev : ∀ {vs : List V} {us : List Value}, Vals vs us → Vals vs.reverse us.reverse
  | _, _, .nil => .nil
  | _, _, .cons h r => by
    rw [List.reverse_cons, List.reverse_cons]
    exact Vals.append (vals_rev r) (.cons h .nil)
end Lw
namespace Lw
open PySem PySem.Spec PyProof.Rows L2
theorem cutV_ints (ns : List Int) (lo hi : Option Int) : ∃ ms : List Int, cutV (ns.map V.int) lo hi = ms.map V.int ∧ ms.length ≤ ns.length := by
  unfold cutV
  refine ⟨(ns.drop (HT.sIx (ns.map V.int).length 0 lo)).take (HT.sIx (ns.map V.int).length (ns.map V.int).length hi - HT.sIx (ns.map V.int).length 0 lo), ?_, ?_⟩
  · rw [List.map_take, List.map_drop]
  · rw [List.length_take, List.length_drop]; omega
theorem none_of_same {H G : Hp} (s : Same H G) {q : Addr} (h : G q = none) : H q = none := by
  cases e : H q with
  | none => rfl
  | some o => rw [s _ _ e] at h; cases h
theorem keep_at {a : Addr} {H G : Hp} {D : Addr} {o : HO} (n : H D = none) (s : Keep a H G) : Keep a H (upd G D o) := fun b u nb h => by
  rw [upd_ne (ne_of_none h n)]
  exact s b u nb h
/-! words, several and different -/
def cand1 (w : Str) (c : Nat) : Str := sign c ++ cutS w (some 1) none
def WInv (z : Str) (ts : List Str) (j : Nat) (y : Str) : Prop := IsWord y ∧ IsWord z ∧ y.cps.toList.drop 1 = z.cps.toList.drop 1 ∧ (y ∉ ts ∨ ∀ i c, i + 1 < j → abc[i]? = some c → cand1 z c ∈ ts) ∧ (y ∉ ts ∨ j = 0 ∨ ∃ c, abc[j - 1]? = some c ∧ y = cand1 z c)
theorem cand1_tl (w : Str) (c : Nat) : (cand1 w c).cps.toList = c :: w.cps.toList.drop 1 := by
  unfold cand1
  rw [tl_app, tl_sign]
  unfold cutS
  have h1 : HT.sIx w.length 0 (some 1) = min 1 w.length := HT.sIx_nat _ _ 1
  have h2 : HT.sIx w.length w.length none = w.length := rfl
  rw [h1, h2]
  have h3 : w.length = w.cps.toList.length := len_tl w
  show [c] ++ (List.take (w.length - min 1 w.length) (List.drop (min 1 w.length) w.cps.toList)) = _
  rw [h3]
  show c :: _ = _
  congr 1
  cases w.cps.toList with
  | nil => rfl
  | cons x r =>
    have e : min 1 (x :: r).length = 1 := by simp only [List.length_cons]; omega
    rw [e]
    simp
theorem WInv.word {z y : Str} {ts : List Str} {j : Nat} (h : WInv z ts j y) : IsWord y := h.1
theorem WInv.zero {z : Str} {ts : List Str} (h : IsWord z) : WInv z ts 0 z := ⟨h, h, rfl, .inr fun i c hi => absurd hi (by omega), .inr (.inl rfl)⟩
theorem WInv.stay {z y : Str} {ts : List Str} {j : Nat} (h : WInv z ts j y) (n : y ∉ ts) : WInv z ts (j + 1) y := ⟨h.1, h.2.1, h.2.2.1, .inl n, .inl n⟩
theorem cand1_inj {w : Str} {c d : Nat} (h : cand1 w c = cand1 w d) : c = d := by
  have e : (cand1 w c).cps.toList = (cand1 w d).cps.toList := by rw [h]
  rw [cand1_tl, cand1_tl] at e
  exact (List.cons.inj e).1
theorem cand1_eq {z y : Str} (e : y.cps.toList.drop 1 = z.cps.toList.drop 1) (c : Nat) : cand1 y c = cand1 z c := by
  have h : (cand1 y c).cps.toList = (cand1 z c).cps.toList := by rw [cand1_tl, cand1_tl, e]
  have h2 : (cand1 y c).cps = (cand1 z c).cps := Array.toList_inj.mp h
  cases h3 : cand1 y c
  cases h4 : cand1 z c
  rw [h3, h4] at h2
  cases h2
  rfl
theorem WInv.step {z y : Str} {ts : List Str} {j c : Nat} (h : WInv z ts j y) (hin : y ∈ ts) (hc : abc[j]? = some c) : WInv z ts (j + 1) (cand1 y c) := by
  obtain ⟨h1, h2, h3, h4, h5⟩ := h
  have t := cand1_tl y c
  refine ⟨?_, h2, by rw [t]; exact h3, .inr fun i d hi hd => ?_, .inr (.inr ⟨c, by simpa using hc, cand1_eq h3 c⟩)⟩
  · obtain ⟨w1, w2, w3⟩ := h1
    rw [len_tl] at w1 w2
    refine ⟨by rw [len_tl, t]; simp, ?_, fun x hx => ?_⟩
    · rw [len_tl, t, List.length_cons, List.length_drop]; omega
    · rw [t] at hx
      rcases List.mem_cons.mp hx with e | e
      · rw [e]; exact abc_le (List.mem_of_getElem? hc)
      · exact w3 x (List.mem_of_mem_drop e)
  · rcases Nat.lt_or_ge (i + 1) j with l | l
    · rcases h4 with h4 | h4
      · exact absurd hin h4
      · exact h4 i d l hd
    · have e : i = j - 1 := by omega
      rcases h5 with h5 | h5 | ⟨d2, e1, e2⟩
      · exact absurd hin h5
      · omega
      · rw [e] at hd
        rw [e1] at hd
        cases hd
        rw [← e2]
        exact hin
theorem WInv.done {z y : Str} {ts : List Str} (h : WInv z ts 26 y) (l : ts.length ≤ 24) : y ∉ ts := by
  obtain ⟨_, _, _, h4, _⟩ := h
  rcases h4 with h4 | h4
  · exact h4
  exfalso
  have hm : ∀ x ∈ (abc.take 25).map (cand1 z), x ∈ ts := fun x hx => by
    obtain ⟨c, hc, rfl⟩ := List.mem_map.mp hx
    obtain ⟨i, hi, e⟩ := List.mem_take_iff_getElem.mp hc
    refine h4 i c (by omega) ?_
    rw [← e]
    exact List.getElem?_eq_getElem _
  have nd : ((abc.take 25).map (cand1 z)).Nodup := by
    have h0 : (abc.take 25).Nodup := by decide
    exact List.Pairwise.map _ (fun a b ne q => ne (cand1_inj q)) h0
  have := nodup_le nd hm
  rw [List.length_map] at this
  have : (abc.take 25).length = 25 := rfl
  omega
def spWord2 (K : PySem.W.Frag) : Sp := fun vs H Q _ => ∃ (a b : Addr) (n : Nat) (ts : List Str), vs = [.ref a, .ref b] ∧ Src H a n ∧ n ≤ 900000000 ∧ b ≠ a ∧ SqL K H b (ts.map V.str) ∧ ts.length ≤ 24 ∧
  ∀ H' w, Keep a H H' → Src H' a (n + 10) → IsWord w → w ∉ ts → Q (.str w) H'
def GoodWs (ws ts : List Str) : Prop := ws.Nodup ∧ ∀ z ∈ ws, IsWord z ∧ z ∉ ts
theorem GoodWs.nil {ts : List Str} : GoodWs [] ts := ⟨List.nodup_nil, fun _ h => (List.not_mem_nil h).elim⟩
theorem GoodWs.snoc {ws ts : List Str} {z : Str} (h : GoodWs ws ts) (hz : IsWord z) (n : z ∉ ts ++ ws) : GoodWs (ws ++ [z]) ts := by
  have n1 : z ∉ ts := fun m => n (List.mem_append_left _ m)
  have n2 : z ∉ ws := fun m => n (List.mem_append_right _ m)
  refine ⟨List.nodup_append.mpr ⟨h.1, by simp, fun x hx y hy => ?_⟩, fun x hx => ?_⟩
  · rw [List.mem_singleton.mp hy]
    exact fun e => n2 (e ▸ hx)
  · rcases List.mem_append.mp hx with m | m
    · exact h.2 x m
    · rw [List.mem_singleton.mp m]; exact ⟨hz, n1⟩
def spWords (K : PySem.W.Frag) : Sp := fun vs H Q _ => ∃ (a b : Addr) (n : Nat) (m : Int) (ts : List Str), vs = [.ref a, .int m, .ref b] ∧ Src H a n ∧ n ≤ 800000000 ∧ b ≠ a ∧ H b = some (.lst (ts.map V.str)) ∧ ts.length ≤ 10 ∧ (0 ≤ m ∧ m ≤ 8) ∧
  ∀ l H' ws, H l = none → Keep a H H' → Src H' a (n + 80) → H' l = some (.lst (ws.map V.str)) → ws.length = m.toNat → GoodWs ws ts → Q (.ref l) H'
def spNumL : Sp := fun vs H Q _ => ∃ (a : Addr) (n : Nat) (m : Int), vs = [.ref a, .int m] ∧ Src H a n ∧ n ≤ 900000000 ∧ 0 < m ∧ m.natAbs < 2 ^ 198 ∧
  ∀ H' i, Keep a H H' → Src H' a (n + 2) → Q (.int i) H'
structure TxtQ (mg : Str → Option Value) : Prop where
  isi : mg "isinstance" = none
  int : mg "int" = none
  bool : mg "bool" = none
  list : mg "list" = none
  dict : mg "dict" = none
end Lw

set_option Elab.async false
set_option linter.all false
set_option maxRecDepth 100000
set_option maxHeartbeats 4000000
namespace Lk
open PySem PySem.Spec PyProof.Rows L2
/-! list(d.keys()) -/
def tListKeys (te : TE) : TE := fun σ H Q => te σ H fun x H1 => ∃ (d : Addr) (kvs : List (Key × V)), x = .ref d ∧ H1 d = some (.dK kvs) ∧ ∀ p, H1 p = none → Q (.ref p) (upd H1 p (.lst (kvs.map fun kv => kV kv.1)))
section
variable {X : Cx} {e : Expr} {te : TE} {p apos cpos pos : Pos}
theorem pe_listKeys (hc : X.calm = true) (he : PE X e te) (hg : Gl X "list") (hm : X.mg "list" = none) (hv : bootBuiltins "list" = some (.type "list")) (hbase : attributeBase e "keys" X.env (eval e X.env) = eval e X.env := by rfl) (hline : (apos.endLine == cpos.line) = true := by rfl)
    (hs : starEach [.Call (.Attribute e "keys" apos) [] [] cpos] X.env = (false, eval (.Call (.Attribute e "keys" apos) [] [] cpos) X.env) :: starEach [] X.env := by rfl) :
    PE X (.Call (.Name "list" p) [.Call (.Attribute e "keys" apos) [] [] cpos] [] pos) (tListKeys te) := by
  refine ⟨fun pins s σ H Q I hq => ?_⟩
  refine wpAny_Call_Name_kw (ld_blt I hg hm hv ?_)
  refine PyProof.Rows.callWith_type1 ?_ hs rfl
  rw [hs]
  show wpAny _ _ (spliced ((false, eval (.Call (.Attribute e "keys" apos) [] [] cpos) X.env) :: backTo pos (starEach [] X.env))) _ _ s
  refine Calls.spliced_cons ?_
  refine wpAny_Call_method (T := "dict") (id := "dict.keys") hbase rfl hline F.plainAttrs_dict F.slot_dict_keys F.type_dict_keys (thn (he.run pins s σ H _ I hq) fun u s1 ⟨x, H1, I1, rx, d, kvs, ex, hd, q⟩ => ?_)
  subst ex
  obtain rfl : u = Value.ref d := rx
  obtain ⟨hz, hs0, vs, kv, hdo⟩ := I1.hok d _ hd
  obtain ⟨ep, hat⟩ := hdo.dictAt
  have lk : kvs.length = vs.length := Paired.length kv
  have I2 : Inv X pins σ H1 { s1 with heap := s1.heap.push { cls := .type "dict_keys", data := .fields #[.ref d] } } := I1.kept (t' := s1.toks) fun b ob q => Heap.get?_push_of_some _ q
  have ek : (kvs.map fun kv => kV kv.1) = vs.map fun p => kV p.1 := by
    have e := congrArg (List.map kV) kv.keys
    rw [List.map_map, List.map_map] at e
    exact e
  refine ⟨hdo.typeIs, hdo.mapOf.noDict, ?_⟩
  show wpAny _ _ (callWith cpos (.builtin "dict.keys") [.ref d] [] []) _ X.xe s1
  refine method_meetsIn F.slot_dict_keys F.entry_dict_keys rfl (PySem.evalArgs_none ⟨rfl, hdo.typeIs, F.args_dict_keys_1 _, _, PySem.W.kdl_meets_keys (mixKind X.prog X.w) d hs0, ⟨vs, hdo⟩, ?_⟩)
  refine Calls.spliced_nil ?_
  refine PySem.W.kdl_call (PySem.W.kdl_keys (knd := mixKind X.prog X.w) (kvs := vs) (ep := ep)) (I1.ok.hd hc) ⟨⟨_, Heap.get?_push_size _ rfl, rfl, rfl⟩, hat.push _⟩ (by rw [← lk]; exact hz) fun h' tk acc c' hk hD hacc => ?_
  have hv2 : Vals (vs.map fun p => kV p.1) acc.toList := keys_at (by rw [Array.length_toList]; exact hacc.1) fun j v e => hacc.2 j v (by rw [← Array.getElem?_toList]; exact e)
  refine ⟨.ref _, upd H1 _ (.lst (kvs.map fun kv => kV kv.1)), I2.laid (t' := tk) hk (Nat.le_refl _)
    (show ObjOk X.prog X.w _ _ _ (.lst (kvs.map fun kv => kV kv.1)) from ⟨by rw [List.length_map]; exact hz, acc.toList, c', by rw [ek]; exact hv2, by rw [Array.toArray_toList]; exact hD⟩), rfl, q _ (I2.hok.fresh (Nat.le_refl _))⟩
end
end Lk
namespace Lw
open PySem PySem.Spec PyProof.Rows L2
/-! one order of texts only -/
theorem rising_all : ∀ (r : List Str) (p : Str), risingS p r = true → (∀ y ∈ r, p.cps.toList ≤ y.cps.toList) ∧ sortedS r = true
  | [], _, _ => ⟨fun _ h => (List.not_mem_nil h).elim, rfl⟩
  | x :: r, p, h => by
    unfold risingS at h
    rw [Bool.and_eq_true, Bool.not_eq_true', ltCps_eq] at h
    have h1 : ¬ x.cps.toList < p.cps.toList := of_decide_eq_false h.1
    have h2 : p.cps.toList ≤ x.cps.toList := List.not_lt.mp h1
    refine ⟨fun y hy => ?_, h.2⟩
    rcases List.mem_cons.mp hy with rfl | hy
    · exact h2
    · exact List.le_trans h2 ((rising_all r x h.2).1 y hy)
theorem str_ext {a b : Str} (h : a.cps.toList = b.cps.toList) : a = b := by
  have := Array.toList_inj.mp h
  cases a
  cases b
  cases this
  rfl
theorem sorted_one : ∀ {xs ys : List Str}, sortedS xs = true → sortedS ys = true → xs.Perm ys → xs = ys
  | [], ys, _, _, p => by rw [List.nil_perm.mp p]
  | x :: xs, [], _, _, p => by cases List.perm_nil.mp p
  | x :: xs, y :: ys, hx, hy, p => by
    obtain ⟨a1, a2⟩ := rising_all xs x hx
    obtain ⟨b1, b2⟩ := rising_all ys y hy
    have e : x = y := by
      rcases List.mem_cons.mp (p.mem_iff.mp List.mem_cons_self) with e | e
      · exact e
      rcases List.mem_cons.mp (p.mem_iff.mpr (List.mem_cons_self (a := y))) with e2 | e2
      · exact e2.symm
      exact str_ext (List.le_antisymm (a1 y e2) (b1 x e))
    subst e
    rw [sorted_one a2 b2 (List.Perm.cons_inv p)]
end Lw

set_option Elab.async false
set_option linter.all false
set_option maxRecDepth 100000
set_option maxHeartbeats 0
namespace Hc
open PySem PySem.Spec PyProof.Rows L2
/-! a Hook: facts, defs wherever they stand, one Bool more -/
abbrev Al : Type := He.AlD × Bool
def obG (n : Nat) (fa : List He.Fa) (fn : List He5.DefA) (own : PySem.W.Frag → Bool) (g : Addr → Option Obj) : Al := (He5.obsAG n fa fn g, own (He.frG g (He5.asA g n)))
def Says (fa : List He.Fa) (fn : List He5.DefA) (own : PySem.W.Frag → Bool) (K : PySem.W.Frag) : Prop := He5.SaysA fa fn K ∧ own K = true
def hook (n : Nat) (fa : List He.Fa) (fn : List He5.DefA) (own : PySem.W.Frag → Bool) : PySem.W.Hook where
  α := Al
  obs := fun s => obG n fa fn own s.heap.get?
  val := fun _ => (He5.valA fn, true)
  says := fun _ h => ∃ K : PySem.W.Frag, K.In h ∧ Says fa fn own K
  of := fun _ _ e => ⟨_, He.frG_in, congrArg Prod.fst e, congrArg Prod.snd e⟩
  keeps := fun _ _ _ ⟨K, hK, c⟩ k => ⟨K, PySem.W.Frag.In.keeps hK k, c⟩
theorem obG_eq {n : Nat} {fa : List He.Fa} {fn : List He5.DefA} {own : PySem.W.Frag → Bool} {g : Addr → Option Obj} {s : Shared} (h : ∀ a, g a = s.heap.get? a) : obG n fa fn own g = (hook n fa fn own).obs s := by
  rw [show g = s.heap.get? from funext h] <;> rfl
theorem Says.fact {fa : List He.Fa} {fn : List He5.DefA} {own : PySem.W.Frag → Bool} {K : PySem.W.Frag} (c : Says fa fn own K) {f : He.Fa} (hf : f ∈ fa) : f.ok K = true := by
  obtain ⟨i, hi⟩ := List.getElem?_of_mem hf
  exact c.1.fact i hi
/-- a class's constants -/
def cvS (K : PySem.W.Frag) (C : Addr) (f z : Str) : Bool := match PySem.W.findCls K (.ref C) (.type "type") f with
  | some (.val (.str y _)) => decide (y = z)
  | _ => false
def cvI (K : PySem.W.Frag) (C : Addr) (f : Str) (i : Int) : Bool := match PySem.W.findCls K (.ref C) (.type "type") f with
  | some (.val (.int y _)) => decide (y = i)
  | _ => false
theorem cvS_ok {K : PySem.W.Frag} {C : Addr} {f z : Str} (h : cvS K C f z = true) : ∃ u, ClX.CVal K C (.type "type") f (.str z) u := by
  unfold cvS at h
  split at h
  · rename_i y t e
    exact ⟨_, e, t, by rw [of_decide_eq_true h]⟩
  · cases h
theorem cvI_ok {K : PySem.W.Frag} {C : Addr} {f : Str} {i : Int} (h : cvI K C f i = true) : ∃ u, ClX.CVal K C (.type "type") f (.int i) u := by
  unfold cvI at h
  split at h
  · rename_i y t e
    exact ⟨_, e, t, by rw [of_decide_eq_true h]⟩
  · cases h
def crB (K : PySem.W.Frag) (C : Addr) : Bool := PySem.W.readsIn K C (.type "type") && He.eqO (PySem.W.specialIn K (.ref C) "__getattribute__") (some (some (.builtin "type.__getattribute__")))
theorem crB_ok {K : PySem.W.Frag} {C : Addr} (h : crB K C = true) : ClX.CRead K C (.type "type") := ⟨(He.ba h).1, He.eqO_ok (He.ba h).2⟩
end Hc
namespace Lw
open PySem PySem.Spec PyProof.Rows L2
def dG (x : Str) (st : Stmt) : He5.DefA := ⟨fun K => He.ga K x, x, x, defArgs st, defBody st, defScope st, [], []⟩
def dM (C m q : Str) (st : Stmt) (kwd : List (Str × He.Dv) := []) : He5.DefA := ⟨fun K => He.ma K (He.ga K C) m, m, q, defArgs st, defBody st, defScope st, [], kwd⟩
end Lw

set_option Elab.async false
set_option linter.all false
set_option maxRecDepth 100000
set_option maxHeartbeats 4000000
namespace Lw
open PySem PySem.Spec PyProof.Rows L2
/-! an expression that may be read in two ways -/
theorem pe_or {X : Cx} {e : Expr} {t1 t2 : TE} (h1 : PE X e t1) (h2 : PE X e t2) : PE X e (fun σ H Q => t1 σ H Q ∨ t2 σ H Q) := ⟨fun pins s σ H Q I h => h.elim (h1.run pins s σ H Q I) (h2.run pins s σ H Q I)⟩
theorem kb1 {K : PySem.W.Frag} {x qual : Str} {params : Arguments} {body : List Stmt} {scope : Scope} {kws : List (Str × V)} {f : Addr} {fd : FuncData} {ps ks : List Str} {g : List Value → List Value} {gV : List V → List V} (F : FunD K x qual params body scope [] kws f fd) (hr : ∀ {zs us}, Vals zs us → Vals (gV zs) (g us))
    (h : ∀ (kV doc pm : Value) (an : Option Addr) (cdv ct : Value) (u : Value) (ws : List Value), ws.length = ks.length → bindArgs (PySem.W.fnOf x qual params body scope .none kV doc pm an cdv ct) ⟨[u], ks.zip ws⟩ = pure (ps.zip (u :: g ws))) : KBn K fd ps 1 ks (fun us ws => us ++ g ws) (fun vs zs => vs ++ gV zs) := by
  obtain ⟨oc, od, dV, kV, doc, pm, an, cdv, ct, osl, rfl, lk, hcd, hD, hK⟩ := F.ex
  rcases hD with ⟨_, rfl⟩ | ⟨e, _⟩
  · exact ⟨fun s us ws _ l1 l2 => by
      match us, l1 with
      | [u], _ => exact .of_eq (h kV doc pm an cdv ct u ws l2), fun r q => r.append (hr q)⟩
  · exact absurd rfl e
/-! properties of the text's classes -/
def propB (K : PySem.W.Frag) (C : Addr) (m : Str) : Bool := He.eqO (PySem.W.findIn K (.ref C) m) (some (some (.ref (He.ma K C m)))) && (He.eqO (PySem.W.specialIn K (.ref (He.ma K C m)) "__get__") (some (some (.builtin "property.__get__"))) &&
  (decide (PySem.W.takesIn K (.ref (He.ma K C m)) = some true) && (match PySem.W.recIn K (He.ma K C m) "property" with
    | some (.ref _ :: _) => true
    | _ => false)))
theorem propB_ok {K : PySem.W.Frag} {C : Addr} {m : Str} (h : propB K C m = true) : PropOf K C m (He.ma K C m) (He5.wf K C "property" m) := by
  obtain ⟨h1, h⟩ := He.ba h
  obtain ⟨h2, h⟩ := He.ba h
  obtain ⟨h3, h4⟩ := He.ba h
  refine ⟨He.eqO_ok h1, He.eqO_ok h2, of_decide_eq_true h3, ?_⟩
  unfold He5.wf
  split at h4
  · rename_i f r e
    rw [e]
    exact ⟨r, rfl⟩
  · cases h4
def conB (K : PySem.W.Frag) (C : Addr) (f z : Str) : Bool := match PySem.W.findIn K (.ref C) f with
  | some (some (.str y t)) => decide (y = z) && He.eqO (PySem.W.specialIn K (.str y t) "__get__") (some none)
  | _ => false
theorem conB_ok {K : PySem.W.Frag} {C : Addr} {f z : Str} (h : conB K C f z = true) (hc : PySem.W.copiedNames.contains f = false) : ∃ u, Con K C f (.str z) u := by
  unfold conB at h
  split at h
  · rename_i y t e
    obtain ⟨h1, h2⟩ := He.ba h
    have e1 := of_decide_eq_true h1
    subst e1
    exact ⟨_, e, ⟨_, rfl⟩, He.eqO_ok h2, hc⟩
  · cases h
def dP (C m q : Str) (st : Stmt) : He5.DefA := ⟨fun K => He5.wf K (He.ga K C) "property" m, m, q, defArgs st, defBody st, defScope st, [], []⟩
/-! cells: names with integers or None -/
def IntN (v : V) : Prop := (∃ i : Int, v = .int i) ∨ v = .non
def RowOk (kvs : List (Key × V)) : Prop := (∃ ks : List Str, kvs.map (·.1) = ks.map Sum.inr ∧ ks.Nodup ∧ ∀ z ∈ ks, IsWord z) ∧ (∀ p ∈ kvs, IntN p.2) ∧ kvs.length ≤ 60
theorem IntN.flat {v : V} (h : IntN v) : flatB v = true := by
  rcases h with ⟨i, rfl⟩ | rfl <;> rfl
theorem RowOk.nodup {kvs : List (Key × V)} (h : RowOk kvs) : (kvs.map (·.1)).Nodup := by
  obtain ⟨⟨ks, e, n, _⟩, _⟩ := h
  rw [e]
  exact List.Pairwise.map _ (fun a b ne q => ne (Sum.inr.inj q)) n
theorem valV_mem : ∀ {kvs : List (Key × V)}, (kvs.map (·.1)).Nodup → ∀ p ∈ kvs, valV kvs p.1 = some p.2
  | [], _, _, h => by cases h
  | (k, v) :: r, n, p, h => by
    rw [List.map_cons, List.nodup_cons] at n
    rcases List.mem_cons.mp h with rfl | h
    · show valV ((k, v) :: r) k = some v
      unfold valV
      simp
    · have ne : p.1 ≠ k := fun e => n.1 (by rw [← e]; exact List.mem_map.mpr ⟨p, h, rfl⟩)
      have ih := valV_mem n.2 p h
      have hd : decide (k = p.1) = false := decide_eq_false fun e => ne e.symm
      show ((List.find? (fun kv => decide (kv.1 = p.1)) ((k, v) :: r)).map (·.2)) = some p.2
      rw [List.find?_cons]
      simp only [hd]
      exact ih
theorem depth_strs : ∀ ks : List Str, PyData.depthAll (ks.map PyData.str) = 0
  | [] => rfl
  | z :: r => by
    show max (PyData.depth (.str z)) (PyData.depthAll (r.map PyData.str)) = 0
    rw [depth_strs r]
    rfl
theorem canLay_strs : ∀ ks : List Str, (∀ z ∈ ks, IsWord z) → PyData.canLayAll0 (ks.map PyData.str) = true
  | [], _ => rfl
  | z :: r, h => by
    show (PyData.canLay0 (.str z) && PyData.canLayAll0 (r.map PyData.str)) = true
    rw [canLay_strs r fun y hy => h y (List.mem_cons_of_mem _ hy)]
    have h3 : PyData.canLay0 (.str z) = true := by
      show z.cps.all (· < 0x110000) = true
      rw [← Array.all_toList, List.all_eq_true]
      intro c hc
      have := (h z List.mem_cons_self).2.2 c hc
      exact decide_eq_true (by omega)
    rw [h3]
    rfl
theorem shaped_strs (ks : List Str) (h : ∀ z ∈ ks, IsWord z) : SeqAt.shaped (.list (ks.map PyData.str)) = true := by
  have e1 : PyData.canLay0 (.list (ks.map PyData.str)) = true := canLay_strs ks h
  have e2 : PyData.depth (.list (ks.map PyData.str)) ≤ 64 := by
    have e3 := depth_strs ks
    simp only [PyData.depth, e3]
    decide
  unfold SeqAt.shaped
  rw [e1, decide_eq_true e2]
  rfl
theorem eqv_strs {ks : List Str} (h : ∀ z ∈ ks, IsWord z) : PyData.eqv (.list (ks.map PyData.str)) (.list (ks.map PyData.str)) = true := PySem.SeqAt.eqv_refl _ (canLay_strs ks h)
theorem scalN {v : V} (h : IntN v) : scal v v = true := by
  rcases h with ⟨i, rfl⟩ | rfl <;> rfl
theorem src_ne_strs {H : Hp} {a l : Addr} {n : Nat} {ws : List Str} (hs : Src H a n) (hl : H l = some (.lst (ws.map V.str))) : l ≠ a := fun z => by
  obtain ⟨_, _, _, h, _⟩ := hs
  subst z
  rw [hl] at h
  have e := HO.lst.inj (Option.some.inj h)
  cases ws with
  | nil => cases e
  | cons z r => cases e
theorem str_it {a b : Str} {A B : Prop} (h1 : a = b → A) (h2 : a ≠ b → B) : if decide (V.str a = V.str b) = true then A else B := by
  by_cases e : a = b
  · rw [if_pos (by rw [decide_eq_true_eq, e])]; exact h1 e
  · rw [if_neg (by rw [decide_eq_true_eq]; exact fun z => e (V.str.inj z))]; exact h2 e
theorem dec_str {a b : Str} : decide (V.str a = V.str b) = decide (a = b) := by
  by_cases e : a = b
  · rw [decide_eq_true e, decide_eq_true (by rw [e])]
  · rw [decide_eq_false e, decide_eq_false fun z => e (V.str.inj z)]
/-- both branches come to R -/
theorem sq_ifj {c : TT} {t1 t2 u : TS} {D : Ends} {σ : L2.St} {H : Hp} (P : Bool → Hp → Prop) (R : Hp → Prop) (h : ∀ Q : Bool → Hp → Prop, (∀ b H', P b H' → Q b H') → c σ H Q) (kt : ∀ H', P true H' → ∀ D' : Ends, (∀ G, R G → D'.nx σ G) → t1 D' σ H') (kf : ∀ H', P false H' → ∀ D' : Ends, (∀ G, R G → D'.nx σ G) → t2 D' σ H')
    (k : ∀ G, R G → u D σ G) : tSeq (tIfS c t1 t2) u D σ H :=
  h _ fun b H' p => by
    cases b with
    | true => rw [if_pos rfl]; exact kt H' p _ k
    | false => rw [if_neg Bool.false_ne_true]; exact kf H' p _ k
theorem s1_do {te : TE} {D : Ends} {σ : L2.St} {H : Hp} (P : V → Hp → Prop) (h : ∀ Q : VK, (∀ x H', P x H' → Q x H') → te σ H Q) (k : ∀ x H', P x H' → D.nx σ H') : (tDrop te) D σ H := h _ k
theorem putK_new {kvs : List (Key × V)} {k : Key} {v : V} (h : k ∉ kvs.map (·.1)) : putK kvs k v = kvs ++ [(k, v)] := by
  unfold putK
  rw [if_neg]
  intro e
  obtain ⟨p, hp, e2⟩ := List.any_eq_true.mp e
  exact h (List.mem_map.mpr ⟨p, hp, of_decide_eq_true e2⟩)
theorem RowOk.snoc {kvs : List (Key × V)} {z : Str} {v : V} (h : RowOk kvs) (n : (Sum.inr z : Key) ∉ kvs.map (·.1)) (hz : IsWord z) (hv : IntN v) (l : kvs.length < 60) : RowOk (kvs ++ [(.inr z, v)]) := by
  obtain ⟨⟨ks, e, nd, w⟩, i, _⟩ := h
  refine ⟨⟨ks ++ [z], by rw [List.map_append, List.map_append, e]; rfl, ?_, fun y hy => ?_⟩, fun p hp => ?_, by rw [List.length_append]; show kvs.length + 1 ≤ 60; omega⟩
  · refine List.nodup_append.mpr ⟨nd, by simp, fun x hx y hy => ?_⟩
    rw [List.mem_singleton.mp hy]
    rintro rfl
    exact n (by rw [e]; exact List.mem_map.mpr ⟨x, hx, rfl⟩)
  · rcases List.mem_append.mp hy with m | m
    · exact w y m
    · rw [List.mem_singleton.mp m]; exact hz
  · rcases List.mem_append.mp hp with m | m
    · exact i p m
    · rw [List.mem_singleton.mp m]; exact hv
theorem RowOk.nil : RowOk [] := ⟨⟨[], rfl, List.nodup_nil, fun _ h => (List.not_mem_nil h).elim⟩, fun _ h => (List.not_mem_nil h).elim, Nat.zero_le _⟩
theorem mergeK_new : ∀ (more kvs : List (Key × V)), ((kvs ++ more).map (·.1)).Nodup → mergeK kvs more = kvs ++ more
  | [], kvs, _ => by rw [List.append_nil]; rfl
  | p :: r, kvs, h => by
    have h2 : ((kvs ++ [p]) ++ r) = kvs ++ p :: r := by simp
    have n : p.1 ∉ kvs.map (·.1) := fun m => by
      rw [List.map_append, List.map_cons] at h
      exact (List.nodup_append.mp h).2.2 p.1 m p.1 List.mem_cons_self rfl
    show mergeK (putK kvs p.1 p.2) r = _
    rw [putK_new n, ← h2]
    exact mergeK_new r (kvs ++ [p]) (by rw [h2]; exact h)
theorem RowOk.rev {kvs : List (Key × V)} (h : RowOk kvs) : RowOk kvs.reverse := by
  obtain ⟨⟨ks, e, n, w⟩, i, l⟩ := h
  refine ⟨⟨ks.reverse, by rw [List.map_reverse, e, List.map_reverse], List.Perm.nodup (List.reverse_perm ks).symm n, fun z hz => w z (List.mem_reverse.mp hz)⟩, fun p hp => i p (List.mem_reverse.mp hp), by rw [List.length_reverse]; exact l⟩
end Lw

set_option Elab.async false
set_option linter.all false
set_option maxRecDepth 100000
set_option maxHeartbeats 4000000
namespace Lw
open PySem PySem.Spec PyProof.Rows L2
/-! == and != of dicts of integers and None, with both answers; tuples of a text, an integer and such a dict -/
def eK (ks ls : List (Key × V)) (k : Key) : Bool := match valV ks k, valV ls k with
  | some x, some y => eqV x y
  | _, _ => false
def sameK (ks ls : List (Key × V)) : Bool := ks.length == ls.length && ks.all fun p => (valV ls p.1).isSome && eK ks ls p.1
theorem IntN.flatV {v : V} (h : IntN v) : L2.flatV v = true := by
  rcases h with ⟨i, rfl⟩ | rfl <;> rfl
theorem eqV_N {x y : V} (hx : IntN x) (hy : IntN y) : eqV x y = decide (x = y) := by
  rcases hx with ⟨i, rfl⟩ | rfl <;> rcases hy with ⟨j, rfl⟩ | rfl
  · by_cases e : i = j
    · subst e; simp [eqV]
    · rw [decide_eq_false fun h => e (V.int.inj h)]; simp [eqV, e]
  · rfl
  · rfl
  · rfl
def rEqDB (g : Bool → Bool) : R2 := fun x y H Q => ∃ a b ks ls, x = .ref a ∧ y = .ref b ∧ H a = some (.dK ks) ∧ H b = some (.dK ls) ∧ (ks.map (·.1)).Nodup ∧ (∀ p ∈ ks, IntN p.2) ∧ (∀ p ∈ ls, IntN p.2) ∧ Q (.bl (g (sameK ks ls))) H
theorem val_in {ls : List (Key × V)} {k : Key} {v : V} (h : valV ls k = some v) : ∃ p ∈ ls, p.1 = k ∧ p.2 = v := by
  unfold valV at h
  obtain ⟨p, hp, e⟩ := Option.map_eq_some_iff.mp h
  exact ⟨p, List.mem_of_find?_eq_some hp, by have z := List.find?_some hp; exact of_decide_eq_true (p := p.1 = k) z, e⟩
theorem dict_tree {P : Program} {w : World} {s : Shared} {ks ls : List (Key × V)} {va vb : List (Key × Value)} (ra : KV ks va) (rb : KV ls vb) (nd : (ks.map (·.1)).Nodup) (hk : ∀ p ∈ ks, IntN p.2) (hl : ∀ p ∈ ls, IntN p.2) :
    ∀ k v y, (k, v) ∈ va → valueAt vb k = some y → PySem.W.EqTree P w s 1 v y (eK ks ls k) := fun k v y hm hv => by
  have r1 := ra.val k
  have r2 := rb.val k
  rw [hv] at r2
  have nv : (va.map (·.1)).Nodup := by rw [← ra.keys]; exact nd
  have e1 : valueAt va k = some v := valueAt_of_mem nv hm
  rw [e1] at r1
  cases h1 : valV ks k with
  | none => rw [h1] at r1; exact absurd r1 id
  | some x =>
    cases h2 : valV ls k with
    | none => rw [h2] at r2; exact absurd r2 id
    | some z =>
      rw [h1] at r1
      rw [h2] at r2
      have e : eK ks ls k = eqV x z := by unfold eK; rw [h1, h2]
      rw [e]
      obtain ⟨p, hp, _, ep⟩ := val_in h1
      obtain ⟨q, hq, _, eq⟩ := val_in h2
      exact .leaf fun A _ => eqAt_V r1 r2 (ep ▸ (hk p hp).flatV) (eq ▸ (hl q hq).flatV)
theorem dict_all {ks ls : List (Key × V)} {va vb : List (Key × Value)} (ra : KV ks va) (rb : KV ls vb) : (va.length == vb.length && va.all fun p => (valueAt vb p.1).isSome && eK ks ls p.1) = sameK ks ls := by
  unfold sameK
  have e1 : va.length = ks.length := ra.length.symm
  have e2 : vb.length = ls.length := rb.length.symm
  rw [e1, e2]
  congr 1
  have e3 : va.all (fun p => (valueAt vb p.1).isSome && eK ks ls p.1) = (va.map (·.1)).all fun k => (valV ls k).isSome && eK ks ls k := by
    rw [List.all_map]
    congr 1
    funext p
    show _ = ((valV ls p.1).isSome && eK ks ls p.1)
    rw [(rb.val p.1).isSome_eq]
  rw [e3, ← ra.keys, List.all_map]
  rfl
section
variable {X : Cx}
theorem op_eq_dB (hu : X.A.units + 64 < cLine) : OpR X (compareOp .Eq) (rEqDB id) := by
  intro pins s σ H x y v u Q I rx ry h
  obtain ⟨a, b, ks, ls, rfl, rfl, ea, eb, nd, hk, hl, q⟩ := h
  obtain rfl : v = Value.ref a := rx
  obtain rfl : u = Value.ref b := ry
  obtain ⟨_, ya, va, ra, da⟩ := (show ObjOk X.prog X.w H s.heap a (.dK ks) from I.hok a _ ea)
  obtain ⟨_, yb, vb, rb, db⟩ := (show ObjOk X.prog X.w H s.heap b (.dK ls) from I.hok b _ eb)
  exact PySem.W.eq_dictsT (knd := mixKind X.prog X.w) (e := eK ks ls) ya yb da db (dict_tree ra rb nd hk hl) (n := 1) (by omega) (by rw [dict_all ra rb]; exact ⟨.bl _, H, I, rfl, q⟩)
theorem nodup_len {α : Type} [DecidableEq α] : ∀ {l ts : List α}, l.Nodup → (∀ x ∈ l, x ∈ ts) → l.length ≤ ts.length
  | [], _, _, _ => Nat.zero_le _
  | x :: l, ts, hn, hs => by
    have hx : x ∈ ts := hs x List.mem_cons_self
    have hn2 := List.nodup_cons.mp hn
    have ih := nodup_len (l := l) (ts := ts.erase x) hn2.2 fun y hy => by
      have ne : y ≠ x := fun e => hn2.1 (e ▸ hy)
      exact (List.mem_erase_of_ne ne).mpr (hs y (List.mem_cons_of_mem _ hy))
    rw [List.length_erase_of_mem hx] at ih
    have pos : 0 < ts.length := List.length_pos_of_mem hx
    simp only [List.length_cons]
    omega
theorem nodup_all {α : Type} [DecidableEq α] {l ts : List α} (hn : l.Nodup) (hs : ∀ x ∈ l, x ∈ ts) (hl : ts.length = l.length) (y : α) (hy : y ∈ ts) : y ∈ l := by
  cases Classical.em (y ∈ l) with
  | inl h => exact h
  | inr h =>
    have := nodup_len (l := y :: l) (ts := ts) (List.nodup_cons.mpr ⟨h, hn⟩) fun x hx => by
      rcases List.mem_cons.mp hx with rfl | hx
      · exact hy
      · exact hs x hx
    simp only [List.length_cons] at this
    omega
theorem val_none {ls : List (Key × V)} {k : Key} (h : k ∉ ls.map (·.1)) : valV ls k = none := by
  cases e : valV ls k with
  | none => rfl
  | some v =>
    obtain ⟨p, hp, ek, _⟩ := val_in e
    exact absurd (List.mem_map.mpr ⟨p, hp, ek⟩) h
theorem val_some {ls : List (Key × V)} (nd : (ls.map (·.1)).Nodup) {k : Key} (h : k ∈ ls.map (·.1)) : ∃ v, valV ls k = some v ∧ (k, v) ∈ ls := by
  obtain ⟨p, hp, rfl⟩ := List.mem_map.mp h
  exact ⟨p.2, valV_mem nd p hp, hp⟩
theorem sameK_iff {ks ls : List (Key × V)} (n1 : (ks.map (·.1)).Nodup) (n2 : (ls.map (·.1)).Nodup) (hk : ∀ p ∈ ks, IntN p.2) (hl : ∀ p ∈ ls, IntN p.2) : sameK ks ls = true ↔ ∀ k, valV ks k = valV ls k := by
  unfold sameK
  rw [Bool.and_eq_true, beq_iff_eq, List.all_eq_true]
  constructor
  · rintro ⟨hlen, hall⟩ k
    have one : ∀ p ∈ ks, valV ls p.1 = some p.2 := fun p hp => by
      have z := hall p hp
      rw [Bool.and_eq_true] at z
      obtain ⟨z1, z2⟩ := z
      obtain ⟨y, hy⟩ := Option.isSome_iff_exists.mp z1
      unfold eK at z2
      rw [valV_mem n1 p hp, hy] at z2
      obtain ⟨q, hq, _, eq⟩ := val_in hy
      have z3 : eqV p.2 y = true := z2
      rw [eqV_N (hk p hp) (eq ▸ hl q hq)] at z3
      rw [hy, of_decide_eq_true z3]
    by_cases hm : k ∈ ks.map (·.1)
    · obtain ⟨v, hv, hp⟩ := val_some n1 hm
      rw [hv, one _ hp]
    · have hm2 : k ∉ ls.map (·.1) := fun h => hm (nodup_all n1 (fun x hx => by
        obtain ⟨p, hp, rfl⟩ := List.mem_map.mp hx
        obtain ⟨q, hq, e, _⟩ := val_in (one p hp)
        exact List.mem_map.mpr ⟨q, hq, e⟩) (by rw [List.length_map, List.length_map, hlen]) k h)
      rw [val_none hm, val_none hm2]
  · intro h
    have sub : ∀ {as bs : List (Key × V)}, (as.map (·.1)).Nodup → (∀ k, valV as k = valV bs k) → ∀ x ∈ as.map (·.1), x ∈ bs.map (·.1) := fun {as bs} na hab x hx => by
      obtain ⟨v, hv, _⟩ := val_some na hx
      rw [hab] at hv
      obtain ⟨q, hq, e, _⟩ := val_in hv
      exact List.mem_map.mpr ⟨q, hq, e⟩
    refine ⟨?_, fun p hp => ?_⟩
    · have l1 := nodup_len n1 (sub n1 h)
      have l2 := nodup_len n2 (sub n2 fun k => (h k).symm)
      simp only [List.length_map] at l1 l2
      omega
    · have e1 := valV_mem n1 p hp
      have e2 := e1
      rw [h] at e2
      unfold eK
      rw [e1, e2]
      show (true && eqV p.2 p.2) = true
      rw [eqV_N (hk p hp) (hk p hp), decide_eq_true rfl]
      rfl
theorem sameK_refl {ks : List (Key × V)} (h : RowOk ks) : sameK ks ks = true := (sameK_iff h.nodup h.nodup h.2.1 h.2.1).mpr fun _ => rfl
theorem sameK_congr {ks ls ms : List (Key × V)} (h1 : RowOk ks) (h2 : RowOk ls) (h3 : RowOk ms) (h : ∀ k, valV ls k = valV ms k) : sameK ks ls = sameK ks ms := by
  rw [Bool.eq_iff_iff, sameK_iff h1.nodup h2.nodup h1.2.1 h2.2.1, sameK_iff h1.nodup h3.nodup h1.2.1 h3.2.1]
  exact ⟨fun z k => (z k).trans (h k), fun z k => (z k).trans (h k).symm⟩
end
end Lw

set_option Elab.async false
set_option linter.all false
set_option maxRecDepth 100000
set_option maxHeartbeats 400000
namespace Lw
open PySem PySem.Spec PyProof.Rows L2
section
variable {X : Cx}
theorem all3 (e : Nat → Bool) (a b c : Bool) (h0 : e 0 = a) (h1 : e 1 = b) (h2 : e 2 = c) : ((List.range 3).all e && (3 == 3)) = (a && (b && c)) := by
  subst h0 h1 h2
  show (e 0 && (e 1 && (e 2 && true)) && true) = _
  simp
def three3 (a b c : Bool) (j : Nat) : Bool := if j = 0 then a else if j = 1 then b else c
/-- (text, integer, dict) == (text, integer, dict) -/
def rEqT3 : R2 := fun x y H Q => ∃ (a b d d2 : Addr) (z z2 : Str) (k k2 : Int) (ks ls : List (Key × V)), x = .ref a ∧ y = .ref b ∧ H a = some (.tup [.str z, .int k, .ref d]) ∧ H b = some (.tup [.str z2, .int k2, .ref d2]) ∧ H d = some (.dK ks) ∧ H d2 = some (.dK ls) ∧ RowOk ks ∧ RowOk ls ∧
  Q (.bl (decide (z = z2) && (decide (k = k2) && sameK ks ls))) H
theorem strEq_dec (a b : Str) : eqV (.str a) (.str b) = decide (a = b) := by
  show (a == b) = _
  by_cases h : a = b
  · subst h
    rw [decide_eq_true rfl]
    exact beq_self_eq_true a
  · rw [decide_eq_false h]
    exact beq_eq_false_iff_ne.mpr h
theorem vals_3 {x y z : V} {us : List Value} (r : Vals [x, y, z] us) : ∃ u1 u2 u3, us = [u1, u2, u3] ∧ RelV x u1 ∧ RelV y u2 ∧ RelV z u3 := by
  cases r with
  | cons r1 t => cases t with
    | cons r2 t => cases t with
      | cons r3 t => cases t with
        | nil => exact ⟨_, _, _, rfl, r1, r2, r3⟩
theorem op_eq_t3 (hu : X.A.units + 64 < cLine) : OpR X (compareOp .Eq) rEqT3 := by
  intro pins s σ H x y v u Q I rx ry h
  obtain ⟨a, b, d, d2, z, z2, k, k2, ks, ls, rfl, rfl, ea, eb, ed, ed2, r1, r2, q⟩ := h
  obtain rfl : v = Value.ref a := rx
  obtain rfl : u = Value.ref b := ry
  obtain ⟨its, rv, t1, _⟩ := I.tuple (SqT.of (K := X.K) ea)
  obtain ⟨jts, rw', t2, _⟩ := I.tuple (SqT.of (K := X.K) eb)
  obtain ⟨_, ya, va, ra, da⟩ := (show ObjOk X.prog X.w H s.heap d (.dK ks) from I.hok d _ ed)
  obtain ⟨_, yb, vb, rb, db⟩ := (show ObjOk X.prog X.w H s.heap d2 (.dK ls) from I.hok d2 _ ed2)
  obtain ⟨u1, u2, u3, rfl, q1, q2, q3⟩ := vals_3 rv
  obtain ⟨w1, w2, w3, rfl, p1, p2, p3⟩ := vals_3 rw'
  obtain ⟨s1, rfl⟩ := q1
  obtain ⟨s2, rfl⟩ := q2
  obtain rfl : u3 = Value.ref d := q3
  obtain ⟨s3, rfl⟩ := p1
  obtain ⟨s4, rfl⟩ := p2
  obtain rfl : w3 = Value.ref d2 := p3
  have tr : PySem.W.EqTree X.prog X.w s 2 (.ref d) (.ref d2) (sameK ks ls) := by
    by_cases e : d = d2
    · subst e
      rw [ed] at ed2
      cases ed2
      rw [sameK_refl r1]
      exact .same
    · rw [← dict_all ra rb]
      exact .dicts (knd := mixKind X.prog X.w) (e := eK ks ls) e ya yb da db (dict_tree ra rb r1.nodup r1.2.1 r2.2.1)
  have l1 : PySem.W.EqTree X.prog X.w s 2 (.str z s1) (.str z2 s3) (decide (z = z2)) := .leaf fun A _ => by
    have h := eqAt_V (A := A) (s := s) (y := V.str z) (x := V.str z2) (u := .str z s1) (v := .str z2 s3) ⟨s1, rfl⟩ ⟨s3, rfl⟩ rfl rfl
    have e : eqV (.str z) (.str z2) = decide (z = z2) := strEq_dec z z2
    rw [e] at h
    exact h
  have l2 : PySem.W.EqTree X.prog X.w s 2 (.int k s2) (.int k2 s4) (decide (k = k2)) := .leaf fun A _ => by
    have h := eqAt_V (A := A) (s := s) (y := V.int k) (x := V.int k2) (u := .int k s2) (v := .int k2 s4) ⟨s2, rfl⟩ ⟨s4, rfl⟩ rfl rfl
    have e : eqV (.int k) (.int k2) = decide (k = k2) := by show (k == k2) = _; rfl
    rw [e] at h
    exact h
  have fin : EP X pins σ Q (.bool (decide (z = z2) && (decide (k = k2) && sameK ks ls))) s := ⟨.bl _, H, I, rfl, q⟩
  have key : ∀ (j : Nat) (h1 : j < [Value.str z s1, Value.int k s2, Value.ref d].toArray.size) (h2 : j < [Value.str z2 s3, Value.int k2 s4, Value.ref d2].toArray.size), PySem.W.EqTree X.prog X.w s 2 [Value.str z s1, Value.int k s2, Value.ref d].toArray[j] [Value.str z2 s3, Value.int k2 s4, Value.ref d2].toArray[j] (three3 (decide (z = z2)) (decide (k = k2)) (sameK ks ls) j) := fun j h1 h2 => by
    have hj : j < 3 := h1
    rcases (by omega : j = 0 ∨ j = 1 ∨ j = 2) with rfl | rfl | rfl
    · exact l1
    · exact l2
    · exact tr
  have e3 : ((List.range (min [Value.str z s1, Value.int k s2, Value.ref d].toArray.size [Value.str z2 s3, Value.int k2 s4, Value.ref d2].toArray.size)).all (three3 (decide (z = z2)) (decide (k = k2)) (sameK ks ls)) && [Value.str z s1, Value.int k s2, Value.ref d].toArray.size == [Value.str z2 s3, Value.int k2 s4, Value.ref d2].toArray.size) = (decide (z = z2) && (decide (k = k2) && sameK ks ls)) :=
    all3 _ _ _ _ rfl rfl rfl
  refine PySem.W.eq_tuplesT (n := 2) (e := three3 (decide (z = z2)) (decide (k = k2)) (sameK ks ls)) t1 t2 key (by omega) ?_
  rw [e3]
  exact fin
end
end Lw

set_option Elab.async false
set_option linter.all false
set_option maxRecDepth 100000
set_option maxHeartbeats 4000000
namespace Oq
open PySem PySem.Spec PyProof.Rows L2
/-! == and != of an instance with an own __eq__ -/
/-- what it is compared with, and the type of that -/
inductive Cv (C : Addr) (H : Hp) : V → Value → Prop where
  | ins {b dx D : Addr} {fs : List (Str × V)} (h : H b = some (.ins D dx fs)) : Cv C H (.ref b) (.ref D)
  | int (i : Int) : Cv C H (.int i) (.type "int")
  | bl (b : Bool) : Cv C H (.bl b) (.type "bool")
  | dic {p : Addr} {kvs : List (Key × V)} (h : H p = some (.dK kvs)) : Cv C H (.ref p) (.type "dict")
  | non : Cv C H .non (.type "NoneType")
  | str (z : Str) : Cv C H (.str z) (.type "str")
  | tup {p : Addr} {xs : List V} (h : H p = some (.tup xs)) : Cv C H (.ref p) (.type "tuple")
  | lst {p : Addr} {xs : List V} (h : H p = some (.lst xs)) : Cv C H (.ref p) (.type "list")
section
variable {X : Cx} {pins : List (Addr × Obj)} {σ : L2.St} {H : Hp} {s : Shared} {C : Addr}
theorem looks_ty {v : Value} {T : String} (h : ∀ s' : Shared, (∀ b o, s.heap.get? b = some o → s'.heap.get? b = some o) → s'.TypeIs v T) : PySem.W.Looks (model X.prog X.w) s.heap (typeOf v) (.type T) :=
  fun A Q E s' kept q => wpAny_typeOf (h s' kept) q
theorem Cv.looks (I : Inv X pins σ H s) {y : V} {u t : Value} (c : Cv C H y t) (r : RelV y u) : PySem.W.Looks (model X.prog X.w) s.heap (typeOf u) t := by
  cases c with
  | @ins b dx D fs h =>
    cases (show u = Value.ref b from r)
    obtain ⟨m, J, _⟩ := ins_get I.hok h
    obtain ⟨od, J, _⟩ := J.look
    exact J.type
  | non => cases (show u = Value.none from r); exact looks_ty fun _ _ => rfl
  | bl b => cases (show u = Value.bool b from r); exact looks_ty fun _ _ => rfl
  | int i => obtain ⟨t, e⟩ := (show ∃ t, u = Value.int i t from r); cases e; exact looks_ty fun _ _ => rfl
  | @dic p kvs h =>
    cases (show u = Value.ref p from r)
    obtain ⟨_, _, vs, _, o, es, ep, h1, h2, _⟩ := (show ObjOk X.prog X.w H s.heap p (.dK kvs) from I.hok p _ h)
    exact looks_ty fun s' kept => ⟨o, kept _ _ h1, h2.1⟩
  | str z => obtain ⟨t, e⟩ := (show ∃ t, u = Value.str z t from r); cases e; exact looks_ty fun _ _ => rfl
  | @tup p xs h =>
    cases (show u = Value.ref p from r)
    obtain ⟨_, its, rv, o, ho, hc, n, hd⟩ := (show ObjOk X.prog X.w H s.heap p (.tup xs) from I.hok p _ h)
    exact looks_ty fun s' kept => ⟨o, kept _ _ ho, hc⟩
  | @lst p xs h =>
    cases (show u = Value.ref p from r)
    obtain ⟨_, its, n, rv, ho⟩ := (show ObjOk X.prog X.w H s.heap p (.lst xs) from I.hok p _ h)
    exact looks_ty fun s' kept => ⟨_, kept _ _ ho, rfl⟩
/-- an own def, called below -/
theorem own_call {A : Around} {Ex : Value → Shared → Prop} {k : Nat} {f : Addr} {fd : FuncData} {ps : List Str} {sp : Sp} {us : List Value} {vs : List V} {Q : VK} (fr : A.frames = some X.stack) (room : Room k A) (F : FnOk X.prog X.w X.K X.mg X.base CX0 k f fd ps sp)
    (bt : Binds X.K fd ps []) (I : Inv X pins σ H s) (r : Vals vs us) (pr : sp vs H Q E0) : wpAny (model X.prog X.w) A (call (.ref f) us) (EP X pins σ Q) Ex s := by
  have e := I.env0
  have n : us.length = ps.length := by rw [← r.length]; exact F.len _ _ _ _ pr
  have b1 := bt s us I.kIn (by rw [List.append_nil]; exact n)
  rw [List.append_nil] at b1
  refine wpAny_call (codeAny_mono (F.run A X.stack s H ⟨us, []⟩ us vs Q E0 room ⟨fr, e.mod, e.bs, e.bsz, e.funs, e.frf, e.hok, e.bare⟩ b1 r pr) ?_)
  intro rr s2 z
  match rr, z with
  | .error e, z => exact z.elim
  | .ok (.ret u), z => exact I.after z
  | .ok .next, z => exact z.elim
  | .ok .brk, z => exact z.elim
  | .ok .cont, z => exact z.elim
/-- what a class with an own __eq__ and no own __ne__ has -/
structure EqC (K : PySem.W.Frag) (C f : Addr) : Prop where
  eq : PySem.W.findIn K (.ref C) "__eq__" = some (some (.ref f))
  ne : PySem.W.findIn K (.ref C) "__ne__" = some (some (.builtin "object.__ne__"))
  fn : PySem.W.isFn K (.ref f) = true
  ob : PySem.W.mroIn K C (.type "object") = some true
def rOwn (K : PySem.W.Frag) (C : Addr) (sp : Sp) (g : Bool → Bool) : R2 := fun x y H Q => ∃ (a dx : Addr) (fs : List (Str × V)) (t : Value), x = .ref a ∧ H a = some (.ins C dx fs) ∧ Cv C H y t ∧ PySem.W.notFirst K C t = true ∧
  sp [.ref a, y] H (fun v H' => ∃ b, v = .bl b ∧ Q (.bl (g b)) H') E0
variable {k : Nat} {f : Addr} {fd : FuncData} {ps : List Str} {sp : Sp}
theorem op_eqI (E : EqC X.K C f) (F : FnOk X.prog X.w X.K X.mg X.base CX0 k f fd ps sp) (bt : Binds X.K fd ps []) (room : Room k X.A) : OpR X (compareOp .Eq) (rOwn X.K C sp id) := by
  intro pins s σ H x y u v Q I rx ry h
  obtain ⟨a, dx, fs, t, rfl, ha, c, nf, pr⟩ := h
  cases (show u = Value.ref a from rx)
  obtain ⟨m, J, _⟩ := ins_get I.hok ha
  obtain ⟨od, J, _⟩ := J.look
  have fr := I.ok.frames
  obtain ⟨m2, hF⟩ := I.fr
  show wpAny (model X.prog X.w) X.A (richCompare .Eq (.ref a) v) (EP X pins σ Q) X.xe s
  refine PySem.W.cmp_K (op := .Eq) room.units0 hF I.ok.mod.kin J (c.looks I ry) nf E.eq E.fn (thn (own_call fr room F bt I (vs := [.ref a, y]) (.cons (show RelV (.ref a) (Value.ref a) from rfl) (.cons ry .nil)) pr) ?_)
  rintro r s2 ⟨z, H2, I2, rz, b, rfl, q⟩
  cases (show r = Value.bool b from rz)
  exact ⟨.bl b, H2, I2, rfl, q⟩
/-- object.__ne__ on such an instance: its own __eq__ is asked -/
theorem ne_entry {A : Around} {R : Fin → Shared → Prop} {Ex : Value → Shared → Prop} {a : Addr} {ox : Obj} {od : Option Obj} {u : Value} (hu : A.units < cLine) (E : EqC X.K C f) (KI : X.K.In s.heap) (J : PySem.W.InstAt s.heap a ox C od)
    (h : wpAny (model X.prog X.w) A (call (.ref f) [.ref a, u]) (fun r s' => ∃ b, r = .bool b ∧ R (.done (.ret (.bool (!b)))) s') Ex s) : wpAny (model X.prog X.w) A (Builtin.«object.__ne__» ⟨[.ref a, u], []⟩) R Ex s := by
  unfold Builtin.«object.__ne__»
  show wpAny _ _ (slotArgs "__ne__" 1 ⟨[.ref a, u], []⟩ >>= _) _ _ s
  refine wpAny_bind (wpAny_of_eq (rfl : slotArgs "__ne__" 1 ⟨[.ref a, u], []⟩ = pure (.ref a, [u])) ?_)
  refine wpAny_bind (wpAny_cRoomFor hu (wpAny_bind ?_))
  refine PySem.W.ifBound_K KI J E.eq E.fn (wpAny_mono h ?_ fun _ _ z => z)
  rintro r s' ⟨b, rfl, q⟩
  exact wpAny_bind (wpAny_truthy_bool (wpAny_pure q))
theorem ne_call {A : Around} {R : Value → Shared → Prop} {Ex : Value → Shared → Prop} {a : Addr} {ox : Obj} {od : Option Obj} {u : Value} (hu : A.units + 1 < cLine) (E : EqC X.K C f) (KI : X.K.In s.heap) (J : PySem.W.InstAt s.heap a ox C od)
    (h : wpAny (model X.prog X.w) A.in1 (call (.ref f) [.ref a, u]) (fun r s' => ∃ b, r = .bool b ∧ R (.bool (!b)) s') (fun _ _ => False) s) : wpAny (model X.prog X.w) A (tryCompare (.ref a) "__ne__" u) (fun r s' => ∃ v, r = some v ∧ v ≠ .notImplemented ∧ R v s') Ex s := by
  have run : wpAny (model X.prog X.w) A (call (.builtin "object.__ne__") [.ref a, u]) (fun v s' => ∃ b, v = .bool b ∧ R v s') Ex s := by
    refine wpAny_call (codeAny_call_builtin F.cmp_object.ne.plain F.cmpEntry_ne (PySem.W.check_slot F.cmpKind_ne F.cmpSplit_ne (J.type.andThen (PySem.W.looks_mroIn KI E.ob)) (F.cmpArgs_ne _ _) ?_))
    refine ne_entry (by show A.units + 1 < cLine; exact hu) E KI J (wpAny_mono h ?_ fun _ _ z => z.elim)
    rintro r s' ⟨b, rfl, q⟩
    exact ⟨b, rfl, _, rfl, q⟩
  unfold tryCompare
  have last : wpAny (model X.prog X.w) A (callSpecialIfBound? (.ref a) "__ne__" [u]) (fun r s' => ∃ b, r = some (.bool b) ∧ R (.bool b) s') Ex s := by
    simp only [callSpecialIfBound?, bindSpecialIfBound?]
    refine wpAny_holding (wpAny_bind (wpAny_bind (wpAny_bind (J.type.here ((PySem.W.looks_findIn KI E.ne).here (wpAny_bind (wpAny_askSetting (wpAny_ite ?_))))))))
    have go : wpAny (model X.prog X.w) A (call (.builtin "object.__ne__") ([.ref a] ++ [u]) >>= fun v => pure (some v)) (fun r s' => ∃ b, r = some (.bool b) ∧ R (.bool b) s') Ex s := by
      refine wpAny_bind (wpAny_mono run ?_ fun _ _ z => z)
      rintro v s' ⟨b, rfl, q⟩
      exact wpAny_pure ⟨b, rfl, q⟩
    split
    · exact wpAny_bind (wpAny_of_eq (F.cmp_object.ne.bind _) (wpAny_pure (by exact go)))
    · exact wpAny_tryCatch (wpAny_bind (wpAny_of_eq (F.cmp_object.ne.bind _) (wpAny_pure (by exact go))))
  refine wpAny_bind (wpAny_mono last ?_ fun _ _ z => z)
  rintro r s' ⟨b, rfl, q⟩
  exact wpAny_pure ⟨_, rfl, (fun z => by cases z), q⟩
theorem rich_ne {R : Value → Shared → Prop} {Ex : Value → Shared → Prop} {A : Around} {a : Addr} {ox : Obj} {od : Option Obj} {u t : Value} (hu : A.units < cLine) (KI : X.K.In s.heap) (J : PySem.W.InstAt s.heap a ox C od) (look : PySem.W.Looks (model X.prog X.w) s.heap (typeOf u) t)
    (nf : PySem.W.notFirst X.K C t = true) (h : wpAny (model X.prog X.w) A (tryCompare (.ref a) "__ne__" u) (fun r s' => ∃ v, r = some v ∧ v ≠ .notImplemented ∧ R v s') Ex s) : wpAny (model X.prog X.w) A (richCompare .NotEq (.ref a) u) R Ex s := by
  have sub : t = .ref C ∨ PySem.W.subIn X.K t (.ref C) = some false := (Bool.or_eq_true_iff.mp nf).imp beq_iff_eq.mp beq_iff_eq.mp
  have go : ∀ K2 : Option Value → Sem Value, (∀ v, K2 (some v) = pure v) → wpAny (model X.prog X.w) A (tryCompare (.ref a) "__ne__" u >>= K2) R Ex s := by
    intro K2 e
    refine wpAny_bind (wpAny_mono h ?_ fun _ _ z => z)
    rintro r s' ⟨v, rfl, _, q⟩
    rw [e v]
    exact wpAny_pure q
  unfold richCompare
  simp only [oneThing_ref]
  refine wpAny_holding (wpAny_bind (wpAny_cRoomFor hu (wpAny_bind (J.type.here (wpAny_bind (look.here ?_))))))
  split
  · rename_i q
    rcases sub with e | e
    · rw [e] at q
      simp at q
    · refine wpAny_bind ((PySem.W.looks_subIn KI e).here ?_)
      simp only [Bool.false_eq_true, if_false]
      exact go _ fun _ => rfl
  · refine wpAny_bind (wpAny_pure ?_)
    simp only [Bool.false_eq_true, if_false]
    exact go _ fun _ => rfl
theorem op_neI (E : EqC X.K C f) (F : FnOk X.prog X.w X.K X.mg X.base CX0 k f fd ps sp) (bt : Binds X.K fd ps []) (room : Room (k + 1) X.A) : OpR X (compareOp .NotEq) (rOwn X.K C sp Bool.not) := by
  intro pins s σ H x y u v Q I rx ry h
  obtain ⟨a, dx, fs, t, rfl, ha, c, nf, pr⟩ := h
  cases (show u = Value.ref a from rx)
  obtain ⟨m, J, _⟩ := ins_get I.hok ha
  obtain ⟨od, J, _⟩ := J.look
  have fr := I.ok.frames
  have r1 : Room k X.A.in1 := room.in1
  show wpAny (model X.prog X.w) X.A (richCompare .NotEq (.ref a) v) (EP X pins σ Q) X.xe s
  refine rich_ne room.units0 I.kIn J (c.looks I ry) nf (ne_call r1.units0 E I.kIn J (thn (own_call (A := X.A.in1) fr r1 F bt I (vs := [.ref a, y]) (.cons (show RelV (.ref a) (Value.ref a) from rfl) (.cons ry .nil)) pr) ?_))
  rintro r s2 ⟨z, H2, I2, rz, b, rfl, q⟩
  cases (show r = Value.bool b from rz)
  exact ⟨b, rfl, .bl (!b), H2, I2, rfl, q⟩
end
end Oq

set_option Elab.async false
set_option linter.all false
set_option maxRecDepth 100000
set_option maxHeartbeats 4000000
namespace Lw
open PySem PySem.Spec PyProof.Rows L2
def top (i : Nat) : Stmt := PySem.Challenge.pw_filteredcopies_k32_messages_equal.main.body.getD i (.Pass ⟨0, 0, 0, 0⟩)
abbrev sPutI : Stmt := inClass (top 2) 1
abbrev sPutC : Stmt := inClass (top 2) 2
abbrev sChgI : Stmt := inClass (top 3) 1
abbrev sChgC : Stmt := inClass (top 3) 2
abbrev sTakeI : Stmt := inClass (top 4) 1
abbrev sTakeC : Stmt := inClass (top 4) 2
abbrev sSource : Stmt := top 6
abbrev sDraw : Stmt := top 7
abbrev sPick : Stmt := top 8
abbrev sWord : Stmt := top 9
abbrev sWords : Stmt := top 10
abbrev sNumber : Stmt := top 11
section
variable {P : Program} {w : World} {K : PySem.W.Frag} {mg : Str → Option Value} {base : Heap}
theorem scSource : FnScope ["script", "at", "cell", "great"] ["script", "at"] (defScope sSource) := ⟨rfl, rfl, rfl, by decide +kernel, rfl, by decide +kernel, by decide +kernel⟩
theorem ok_source {f : Addr} {fd : FuncData} (F : FnP K "_law_source" sSource f fd) (T : TxtD mg) (hsum : mg "sum" = none) : FnOk P w K mg base CX0 1 f fd ["script", "at"] (spSource K) := by
  refine F.ok scSource (fun vs H Q E h => ?_) (fun cdv A outer s H vs Q E hr h => ?_)
  · obtain ⟨a, ns, i, rfl, _⟩ := h
    rfl
  · obtain ⟨a, ns, i, rfl, hS, hl, i0, i1, k⟩ := h
    refine ⟨_, PSs.nox (pss_cons (ps_set (i := 2) scSource.nd rfl (Or.inl rfl) (pe_ifExp (pt_cmpR op_lt (pv 1) (pe_callB call_len_seq (by rfl) T.len PySem.boot_len (pa_cons (pv 0) pa_nil)) (nomark _)) (pe_callTy call_int1 (by rfl) T.int (by decide +kernel) (pa_cons (pe_ix ix_list (pv 0) (pv 1) (fun _ _ => rfl)) pa_nil))
        (pe_op op_modN (pe_callTy call_int1 (by rfl) T.int (by decide +kernel) (pa_cons (pe_callB (cr_sum rfl) (by rfl) hsum (by decide +kernel) (pa_cons (pe_slice sl_list (pv 0) po_none (po_some pe_int)) pa_nil)) pa_nil)) pe_int)))
      (pss_cons (ps_set (i := 3) scSource.nd rfl (Or.inl rfl) (pe_ifExp (pt_cmpR op_ge (pe_callB call_abs (by rfl) T.abs (by decide +kernel) (pa_cons (pv 2) pa_nil)) (pe_op op_pow pe_int pe_int) (nomark _)) (pe_callB call_abs (by rfl) T.abs (by decide +kernel) (pa_cons (pv 2) pa_nil)) pe_int))
      (pss_one (ps_ret (pe_lst (pa_cons (pv 3) (pa_cons (pe_op op_add (pe_op op_add (pe_op op_modN (pe_callTy call_int1 (by rfl) T.int (by decide +kernel) (pa_cons (pv 2) pa_nil)) pe_int) (pe_op op_mul pe_int (pv 1))) pe_int) (pa_cons pe_int pa_nil)))))))), ?_⟩
    refine sq_set (fun x H' => Same H H' ∧ ∃ c : Int, x = .int c) (fun Q q => ?_) ?_
    · refine ⟨_, rfl, _, rfl, a, _, rfl, .inl hS, _, _, rfl, rfl, _, rfl, ?_⟩
      refine bool_ite (fun c => ?_) (fun c => ?_)
      · obtain ⟨x, hx, hm⟩ := atI_get (xs := ns.map V.int) i0 (by simpa using c)
        obtain ⟨z, _, rfl⟩ := List.mem_map.mp hm
        exact ⟨_, rfl, _, rfl, a, _, _, _, rfl, rfl, hS, hx, .inl ⟨_, rfl, q _ _ ⟨Same.refl H, z, rfl⟩⟩⟩
      · refine ⟨_, rfl, 1, rfl, a, _, rfl, hS, fun p hp => ?_⟩
        obtain ⟨ms, hms, hml⟩ := cutV_ints ns none (some 1)
        refine ⟨p, ms, rfl, SqL.of (by rw [← hms]; exact upd_same), ?_⟩
        exact .inl ⟨_, rfl, _, _, rfl, rfl, (by show (1000003 : Int) ≠ 0; decide), q _ _ ⟨Lw.Same.new (Same.refl H) hp, _, rfl⟩⟩
    rintro _ H1 ⟨s1, c, rfl⟩
    refine sq_set (fun x H' => H1 = H' ∧ ∃ d : Int, x = .int d ∧ 0 ≤ d) (fun Q q => ?_) ?_
    · refine ⟨_, rfl, _, rfl, _, _, rfl, rfl, ⟨by decide, by decide, by decide⟩, _, _, rfl, rfl, _, rfl, ?_⟩
      refine bool_ite (fun _ => ?_) (fun _ => ?_)
      · exact ⟨_, rfl, _, rfl, q _ _ ⟨rfl, _, rfl, by split <;> omega⟩⟩
      · exact q _ _ ⟨rfl, 0, rfl, by decide⟩
    rintro _ _ ⟨rfl, d, rfl, d0⟩
    refine ⟨_, rfl, _, rfl, .inl ⟨_, rfl, _, _, rfl, rfl, (by show (2305843009213693951 : Int) ≠ 0; decide), _, rfl, _, _, rfl, rfl, .inl ⟨by decide, by decide⟩, _, _, rfl, rfl, _, _, rfl, rfl, (by show 3 ≤ sizeLine; decide), fun p hp => ?_⟩⟩
    have hb := fmod_src c
    exact k p _ (none_of_same s1 hp) (Lw.Same.new s1 hp) ⟨d, _, 0, upd_same, d0, by omega, by omega, by decide, by decide⟩
theorem scDraw : FnScope ["source", "many", "digit", "mixed"] ["source", "many"] (defScope sDraw) := ⟨rfl, rfl, rfl, by decide +kernel, rfl, by decide +kernel, by decide +kernel⟩
theorem ok_draw {f : Addr} {fd : FuncData} (F : FnP K "_law_draw" sDraw f fd) (T : TxtD mg) : FnOk P w K mg base CX0 1 f fd ["source", "many"] spDrawW := by
  refine F.ok scDraw (fun vs H Q E h => ?_) (fun cdv A outer s H vs Q E hr h => ?_)
  · obtain ⟨a, n, m, rfl, _⟩ := h
    rfl
  · obtain ⟨a, n, m, rfl, ⟨d, s', t, hA, d0, s0, s1, t0, t1⟩, hn, m0, m1, k⟩ := h
    have hu := hu_of hr
    have nd := scDraw.nd
    refine ⟨_, PSs.nox (pss_cons (ps_if (pt_cmpR op_gt (pe_ix ix_list (pv 0) pe_int (fun _ _ => rfl)) pe_int (nomark _))
        (pss_cons (ps_set (i := 2) nd rfl (Or.inl rfl) (pe_op op_modN (pe_callTy call_int1 (by rfl) T.int (by decide +kernel) (pa_cons (pe_ix ix_list (pv 0) pe_int (fun _ _ => rfl)) pa_nil)) (pv 1)))
          (pss_cons (ps_asg (pe_op op_fdivW (pe_ix ix_list (pv 0) pe_int (fun _ _ => rfl)) (pv 1)) (pg_sub (pv 0) pe_int set_list)) (pss_one (ps_ret (pv 2))))) pss_nil)
      (pss_cons (ps_asg (pe_op op_add (pe_ix ix_list (pv 0) pe_int (fun _ _ => rfl)) pe_int) (pg_sub (pv 0) pe_int set_list))
      (pss_cons (ps_set (i := 3) nd rfl (Or.inl rfl) (pe_op op_modN (pe_callTy call_int1 (by rfl) T.int (by decide +kernel) (pa_cons (pe_op op_add (pe_op op_pow (pe_op op_add (pe_ix ix_list (pv 0) pe_int (fun _ _ => rfl)) (pe_op op_mul pe_int (pe_ix ix_list (pv 0) pe_int (fun _ _ => rfl)))) pe_int) (pe_op op_mul pe_int (pe_ix ix_list (pv 0) pe_int (fun _ _ => rfl)))) pa_nil)) pe_int))
      (pss_cons (ps_set (i := 3) nd rfl (Or.inl rfl) (pe_op op_modN (pe_callTy call_int1 (by rfl) T.int (by decide +kernel) (pa_cons (pe_op op_add (pe_op op_pow (pe_op op_add (pv 3) (pe_op op_mul pe_int (pe_ix ix_list (pv 0) pe_int (fun _ _ => rfl)))) pe_int) (pe_op op_mul pe_int (pv 3))) pa_nil)) pe_int))
      (pss_one (ps_ret (pe_op op_modN (pe_callTy call_int1 (by rfl) T.int (by decide +kernel) (pa_cons (pe_op op_fdivN (pv 3) pe_int) pa_nil)) (pv 1)))))))), ?_⟩
    have zA : ∀ (r : Int), 0 ≤ r.fmod m ∧ r.fmod m < m := fun r => ⟨Int.fmod_nonneg_of_pos r m0, Int.fmod_lt_of_pos r m0⟩
    have mz : m ≠ 0 := by omega
    refine sq_if (fun b H' => H = H' ∧ b = decide (0 < d)) (fun Q q => ?_) ?_ ?_
    · exact ⟨_, rfl, a, _, _, _, rfl, rfl, SqL.of hA, rfl, _, _, rfl, rfl, _, rfl, q _ _ ⟨rfl, rfl⟩⟩
    · rintro _ ⟨rfl, c⟩
      refine ⟨_, rfl, a, _, _, _, rfl, rfl, SqL.of hA, rfl, .inl ⟨_, rfl, _, rfl, _, _, rfl, rfl, mz, ?_⟩⟩
      refine ⟨_, rfl, a, _, _, _, rfl, rfl, SqL.of hA, rfl, _, rfl, _, _, rfl, rfl, wide_div m0 m1 (by decide) (by decide), _, rfl, a, _, _, _, rfl, rfl, hA, rfl, _, rfl, ?_⟩
      exact k _ _ (Keep.refl H).upd ⟨_, _, _, upd_same, Int.ediv_nonneg d0 (by omega), s0, s1, t0, by omega⟩ (zA d).1 (zA d).2
    · rintro _ ⟨rfl, c⟩
      refine ⟨_, rfl, a, _, _, _, rfl, rfl, SqL.of hA, rfl, _, _, rfl, rfl, _, rfl, a, _, _, _, rfl, rfl, hA, rfl, ?_⟩
      dsimp only
      refine sq_set (fun x H' => upd H a (.lst [.int d, .int s', .int (t + 1)]) = H' ∧ ∃ z : Int, x = .int z ∧ 0 ≤ z ∧ z < 2305843009213693951) (fun Q q => ?_) ?_
      · refine ⟨_, rfl, a, _, _, _, rfl, rfl, SqL.of upd_same, rfl, _, rfl, a, _, _, _, rfl, rfl, SqL.of upd_same, rfl, _, _, rfl, rfl, .inl ⟨by decide, by decide⟩, _, _, rfl, rfl, _, _, rfl, rfl, ⟨by decide, by decide, ?_⟩, _, rfl, a, _, _, _, rfl, rfl, SqL.of upd_same, rfl, _, _, rfl, rfl, .inl ⟨by decide, by decide⟩, _, _, rfl, rfl,
          .inl ⟨_, rfl, _, _, rfl, rfl, (by show (2305843009213693951 : Int) ≠ 0; decide), ?_⟩⟩
        · show (s' + 15485863 * (t + 1)).natAbs < 2 ^ 64
          omega
        · exact q _ _ ⟨rfl, _, rfl, (fmod_src _).1, (fmod_src _).2⟩
      rintro _ _ ⟨rfl, z, rfl, z0, z1⟩
      refine sq_set (fun x H' => upd H a (.lst [.int d, .int s', .int (t + 1)]) = H' ∧ ∃ z : Int, x = .int z ∧ 0 ≤ z ∧ z < 2305843009213693951) (fun Q q => ?_) ?_
      · refine ⟨_, rfl, _, rfl, a, _, _, _, rfl, rfl, SqL.of upd_same, rfl, _, _, rfl, rfl, .inl ⟨by decide, by decide⟩, _, _, rfl, rfl, _, _, rfl, rfl, ⟨by decide, by decide, ?_⟩, _, rfl, _, _, rfl, rfl, .inl ⟨by decide, by decide⟩, _, _, rfl, rfl,
          .inl ⟨_, rfl, _, _, rfl, rfl, (by show (2305843009213693921 : Int) ≠ 0; decide), ?_⟩⟩
        · show (z + 32452867 * (t + 1)).natAbs < 2 ^ 64
          omega
        · refine q _ _ ⟨rfl, _, rfl, Int.fmod_nonneg_of_pos _ (by show (0 : Int) < 2305843009213693921; decide), ?_⟩
          exact Int.lt_trans (Int.fmod_lt_of_pos _ (by show (0 : Int) < 2305843009213693921; decide)) (by decide)
      rintro _ _ ⟨rfl, y, rfl, y0, y1⟩
      refine ⟨_, rfl, _, _, rfl, rfl, ⟨by decide, by decide⟩, .inl ⟨_, rfl, _, rfl, _, _, rfl, rfl, mz, ?_⟩⟩
      exact k _ _ ((Keep.refl H).upd) ⟨_, _, _, upd_same, d0, by omega, by omega, by omega, by omega⟩ (zA _).1 (zA _).2
theorem cal_draw (T : TxtD mg) (D : DefIs K mg "_law_draw" sDraw) : Cal P w K mg base CX0 "_law_draw" 1 ["source", "many"] spDrawW := by
  obtain ⟨f, fd, hm, F⟩ := D
  exact ⟨f, fd, hm, F.kp, ok_draw F T, F.bindsN fun _ _ _ _ _ _ us hl => match us, hl with | [_, _], _ => rfl⟩
theorem scPick : FnScope ["source", "some"] ["source", "some"] (defScope sPick) := ⟨rfl, rfl, rfl, by decide +kernel, rfl, by decide +kernel, by decide +kernel⟩
theorem ok_pick {f : Addr} {fd : FuncData} (F : FnP K "_law_pick" sPick f fd) (T : TxtD mg) (cD : Cal P w K mg base CX0 "_law_draw" 1 ["source", "many"] spDrawW) : FnOk P w K mg base CX0 2 f fd ["source", "some"] (spOf K) := by
  refine F.ok scPick (fun vs H Q E h => ?_) (fun cdv A outer s H vs Q E hr h => ?_)
  · obtain ⟨a, b, n, xs, rfl, _⟩ := h
    rfl
  · obtain ⟨a, b, n, xs, rfl, hs, hn, ba, hb, x0, x1, k⟩ := h
    refine ⟨_, PSs.nox (pss_one (ps_ret (pe_ix ix_list (pv 1) (pe_cal cD hr (pa_cons (pv 0) (pa_cons (pe_callB call_len_seq (by rfl) T.len PySem.boot_len (pa_cons (pv 1) pa_nil)) pa_nil))) (fun _ _ => rfl)))), ?_⟩
    have xl : 0 < xs.length := List.length_pos_iff.mpr x0
    refine ⟨_, rfl, _, rfl, _, rfl, b, _, rfl, .inl hb, a, n, _, rfl, hs, hn, by omega, small_m (by omega), fun H' i kp sr i0 i1 => ?_⟩
    obtain ⟨x, hx, hm⟩ := atI_get i0 i1
    exact ⟨b, _, _, _, rfl, rfl, kp.seq ba hb, hx, k _ _ kp sr hm⟩
abbrev nWord2 : List Str := ["source", "taken", "letters", "word", "letter", "turn"]
theorem scWord : FnScope nWord2 ["source", "taken"] (defScope sWord) := ⟨rfl, rfl, rfl, by decide +kernel, rfl, by decide +kernel, by decide +kernel⟩
theorem ok_word {f : Addr} {fd : FuncData} (F : FnP K "_law_word" sWord f fd) (T : TxtD mg) (cD : Cal P w K mg base CX0 "_law_draw" 1 ["source", "many"] spDrawW) : FnOk P w K mg base CX0 2 f fd ["source", "taken"] (spWord2 K) := by
  refine F.ok scWord (fun vs H Q E h => ?_) (fun cdv A outer s H vs Q E hr h => ?_)
  · obtain ⟨a, b, n, ts, rfl, _⟩ := h
    rfl
  · obtain ⟨a, b, n, ts, rfl, hs, hn, ba, hb, hts, k⟩ := h
    have nd := scWord.nd
    refine ⟨_, PSs.nox (pss_cons (ps_set (i := 2) nd rfl (Or.inr rfl) pe_str)
      (pss_cons (ps_set (i := 3) nd rfl (Or.inl rfl) (pe_join pe_str (pe_lc (own := [("turn", 5)]) (g := gName 5) (tt := tYes) rfl nd (pi_range1 rfl T.range (pa_cons (pe_op op_add pe_int (pe_cal cD hr (pa_cons (pv 0) (pa_cons pe_int pa_nil)))) pa_nil))
        (blkOk_by (N := nWord2) (sc := defScope sWord) (by decide +kernel)) (fun _ _ _ _ _ => pg_name (i := 5) nd rfl (Or.inl rfl)) (fun _ _ _ _ _ => pts_nil) (fun _ _ _ _ _ => pe_ix ix_str (pv 2) (pe_cal cD hr (pa_cons (pv 0) (pa_cons pe_int pa_nil))) (fun _ _ => rfl)))))
      (pss_cons (ps_for PassesOwn.never rfl (pi_str (pv 2)) (pg_name (i := 4) nd rfl (Or.inl rfl))
        (pss_one (ps_if (pt_cmpR op_in_seq (pv 3) (pv 1) rfl) (pss_one (ps_set (i := 3) nd rfl (Or.inl rfl) (pe_op op_add_str (pv 4) (pe_slice sl_str (pv 3) (po_some pe_int) po_none)))) pss_nil)))
      (pss_one (ps_ret (pv 3)))))), ?_⟩
    refine sq_set (fun x H' => H = H' ∧ x = .str letters) (fun Q q => q _ _ ⟨rfl, rfl⟩) ?_
    rintro _ _ ⟨rfl, rfl⟩
    refine sq_set (fun x H' => ∃ z, x = .str z ∧ IsWord z ∧ Keep a H H' ∧ Src H' a (n + 10)) (fun Q q => ?_) ?_
    · refine ⟨⟨_, rfl⟩, _, rfl, a, n, _, rfl, hs, by omega, by decide, by decide, fun H1 i k1 s1 i0 i1 => ⟨_, _, rfl, rfl, _, rfl, by omega, by omega, fun D hD => ?_⟩⟩
      have Da : D ≠ a := s1.ne hD
      refine lc_range (lo := 0) (n := (1 + i).toNat) (fun j H' => ∃ cs : List Nat, H' D = some (.lst ((cs.map sign).map V.str)) ∧ cs.length = j ∧ (∀ c ∈ cs, c ∈ abc) ∧ Keep a H H' ∧ Src H' a (n + 1 + j))
        ⟨[], upd_same, rfl, fun _ h => (List.not_mem_nil h).elim, k1.new hD, s1.new hD⟩ ?_ ?_
      · rintro j H' hj ⟨cs, hd, hl, ha, k2, s2⟩
        refine ⟨rfl, _, rfl, _, rfl, a, _, _, rfl, s2, by omega, by decide, by decide, fun H3 i3 k3 s3 j0 j1 => ?_⟩
        obtain ⟨c, hc, hm⟩ := abc_at j0 j1
        have hd3 := k3 _ _ Da hd
        refine ⟨_, _, c, rfl, rfl, (by show letters.cps.size ≤ sizeLine; rw [letters_cps]; decide), hc, _, hd3, by simp only [List.length_map, hl]; exact small1000 (by omega), cs ++ [c], ?_, by simp [hl], fun x hx => ?_, ?_, ?_⟩
        · rw [upd_same]; simp [sign]
        · rcases List.mem_append.mp hx with h | h
          · exact ha x h
          · rw [List.mem_singleton.mp h]; exact hm
        · intro b' o nb ho
          have e := k3 b' o nb (k2 b' o nb ho)
          by_cases hbD : b' = D
          · exfalso
            rw [hbD] at ho nb
            have := k1 D o nb ho
            rw [hD] at this
            cases this
          · rw [upd_ne hbD]; exact e
        · obtain ⟨d, s', t, h1, h2⟩ := s3
          exact ⟨d, s', t, by rw [upd_ne Da.symm]; exact h1, h2⟩
      · rintro H' ⟨cs, hd, hl, ha, k2, s2⟩
        refine ⟨_, D, cs.map sign, rfl, rfl, .inl (SqL.of hd), ?_, ?_⟩
        · have e1 : ((cs.map sign).map (·.length)).sum = cs.length := by
            clear hd hl ha
            induction cs with
            | nil => rfl
            | cons c r ih => simp only [List.map_cons, List.sum_cons, ih, List.length_cons]; show 1 + _ = _; omega
          have e2 : (PySem.Str.ofString "").length = 0 := by decide +kernel
          rw [e1, e2]
          omega
        · have e : (Txt.join (PySem.Str.ofString "") (cs.map sign)).cps.toList = cs := join_signs _ (by decide +kernel) cs
          refine q _ _ ⟨_, rfl, ⟨?_, ?_, ?_⟩, k2, s2.mono (by omega)⟩
          · rw [len_tl, e]; omega
          · rw [len_tl, e]; omega
          · rw [e]; exact fun c hc => abc_le (ha c hc)
    rintro _ H1 ⟨z, rfl, hz, k1, s1⟩
    have hb1 := k1.seq ba hb
    refine ⟨_, rfl, letters, rfl, ?_⟩
    refine for_it walk_str (fun j σ H' => H1 = H' ∧ ∃ (y : Str) (v4 v5 : Option V), σ = [some (.ref a), some (.ref b), some (.str letters), some (.str y), v4, v5] ∧ WInv z ts j y) ⟨rfl, z, _, _, rfl, WInv.zero hz⟩ (fun _ _ _ _ _ => trivial) ?_ ?_
    · rintro j x σ H' _ hj ⟨rfl, y, v4, v5, rfl, hw⟩ ⟨rfl, c, hc, rfl⟩
      have hc2 : abc[j]? = some c := by
        rw [letters_cps] at hc
        simpa using hc
      refine g_name ?_
      refine ⟨_, rfl, _, rfl, b, _, rfl, .inl hb1, rfl, flat_strs ts, _, rfl, str_mem (fun hin => ?_) (fun hni => ?_)⟩
      · have hw2 := hw.word
        have h9 : sizeLine = 16777216 := by decide
        refine ⟨_, rfl, _, rfl, 1, rfl, _, rfl, ?_, _, _, rfl, rfl, ?_, ?_⟩
        · have := hw2.2.1
          omega
        · have := hw2.2.1
          have e1 : (cand1 y c).length = 1 + (cutS y (some 1) none).length := by
            show (sign c ++ _).length = _
            rw [len_tl, tl_app, List.length_append, ← len_tl (cutS y (some 1) none)]
            rfl
          have e2 := (hw.step hin hc2).word.2.1
          show 1 + _ ≤ _
          omega
        · exact ⟨rfl, _, _, _, rfl, hw.step hin hc2⟩
      · exact ⟨rfl, y, _, _, rfl, hw.stay hni⟩
    · rintro σ H' ⟨rfl, y, v4, v5, rfl, hw⟩
      have e : letters.cps.size = 26 := by rw [letters_cps]; rfl
      rw [e] at hw
      exact ⟨_, rfl, k _ _ k1 s1 hw.word (hw.done hts)⟩
theorem scWords : FnScope ["source", "many", "taken", "found", "turn"] ["source", "many", "taken"] (defScope sWords) := ⟨rfl, rfl, rfl, by decide +kernel, rfl, by decide +kernel, by decide +kernel⟩
theorem ok_words {f : Addr} {fd : FuncData} (F : FnP K "_law_words" sWords f fd) (T : TxtD mg) (cW : Cal P w K mg base CX0 "_law_word" 2 ["source", "taken"] (spWord2 K)) : FnOk P w K mg base CX0 3 f fd ["source", "many", "taken"] (spWords K) := by
  refine F.ok scWords (fun vs H Q E h => ?_) (fun cdv A outer s H vs Q E hr h => ?_)
  · obtain ⟨a, b, n, m, ts, rfl, _⟩ := h
    rfl
  · obtain ⟨a, b, n, m, ts, rfl, hs, hn, ba, hb, hts, hm, k⟩ := h
    have nd := scWords.nd
    have h9 : sizeLine = 16777216 := by decide
    refine ⟨_, PSs.nox (pss_cons (ps_set (i := 3) nd rfl (Or.inl rfl) (pe_lst pa_nil))
      (pss_cons (ps_for PassesOwn.never rfl (pi_range1 rfl T.range (pa_cons (pv 1) pa_nil)) (pg_name (i := 4) nd rfl (Or.inl rfl))
        (pss_one (ps_expr (pe_bm PySem.F.plainAttrs_list PySem.F.slot_list_append PySem.F.type_list_append mt_append (pv 3) (pa_cons (pe_cal cW hr (pa_cons (pv 0) (pa_cons (pe_op op_cat (pv 2) (pv 3)) pa_nil))) pa_nil)))))
      (pss_one (ps_ret (pv 3))))), ?_⟩
    refine sq_set (fun x H1 => ∃ l, x = .ref l ∧ H l = none ∧ H1 = upd H l (.lst [])) (fun Q q => ⟨(by show 0 ≤ sizeLine; decide), fun l nl => q _ _ ⟨l, rfl, nl, rfl⟩⟩) ?_
    rintro _ _ ⟨l, rfl, nl, rfl⟩
    have la : l ≠ a := hs.ne nl
    have lb : l ≠ b := fun z => by subst z; rw [nl] at hb; cases hb
    refine ⟨_, rfl, _, rfl, by omega, by omega, ?_⟩
    refine for_range (lo := 0) (fun j σ G => ∃ (v : Option V) (ws : List Str), σ = [some (.ref a), some (.int m), some (.ref b), some (.ref l), v] ∧ Keep a H G ∧ Src G a (n + 10 * j) ∧ G l = some (.lst (ws.map V.str)) ∧ ws.length = j ∧ GoodWs ws ts) ⟨_, [], rfl, (Keep.refl H).new nl, hs.new nl, upd_same, rfl, GoodWs.nil⟩ ?_ ?_
    · rintro j σ G hj ⟨v, ws, rfl, kG, sG, hl, wl, gw⟩
      have hj2 : j < 8 := by omega
      refine g_name ?_
      refine ⟨_, rfl, .inl ⟨rfl, _, SqL.of hl⟩, _, rfl, _, rfl, _, rfl, b, l, _, _, rfl, rfl, kG _ _ ba hb, hl, ?_, fun p np => ?_⟩
      · simp only [List.length_map]; omega
      refine ⟨a, p, _, ts ++ ws, rfl, sG.new np, by omega, sG.ne np, SqL.of (by rw [List.map_append]; exact upd_same), ?_, fun G2 z k2 s2 hz hzn => ?_⟩
      · rw [List.length_append]; omega
      have hl2 := k2 _ _ la ((Lw.Same.new (Same.refl G) np) _ _ hl)
      refine ⟨l, _, _, rfl, rfl, hl2, ?_, ?_⟩
      · simp only [List.length_map]; omega
      refine ⟨_, ws ++ [z], rfl, ?_, ?_, ?_, ?_, gw.snoc hz hzn⟩
      · exact keep_at nl ((kG.trans ((Keep.refl G).new np)).trans k2)
      · obtain ⟨d, s', t, h1, h2⟩ := s2.mono (show n + 10 * j + 10 ≤ n + 10 * (j + 1) by omega)
        exact ⟨d, s', t, by rw [upd_ne la.symm]; exact h1, h2⟩
      · rw [upd_same, List.map_append]; rfl
      · rw [List.length_append, wl]; rfl
    · rintro σ G ⟨v, ws, rfl, kG, sG, hl, wl, gw⟩
      exact ⟨_, rfl, k l G ws nl kG (sG.mono (by omega)) hl (by omega) gw⟩
theorem scNumber : FnScope ["source", "limit"] ["source", "limit"] (defScope sNumber) := ⟨rfl, rfl, rfl, by decide +kernel, rfl, by decide +kernel, by decide +kernel⟩
theorem ok_number {f : Addr} {fd : FuncData} (F : FnP K "_law_number" sNumber f fd) (cD : Cal P w K mg base CX0 "_law_draw" 1 ["source", "many"] spDrawW) : FnOk P w K mg base CX0 2 f fd ["source", "limit"] spNumL := by
  refine F.ok scNumber (fun vs H Q E h => ?_) (fun cdv A outer s H vs Q E hr h => ?_)
  · obtain ⟨a, n, m, rfl, _⟩ := h
    rfl
  · obtain ⟨a, n, m, rfl, hs, hn, m0, m1, k⟩ := h
    refine ⟨_, PSs.nox (pss_cons (ps_if (pt_cmpR op_gt (pe_cal cD hr (pa_cons (pv 0) (pa_cons pe_int pa_nil))) pe_int (nomark _)) (pss_one (ps_ret (pe_op op_sub (pe_cal cD hr (pa_cons (pv 0) (pa_cons pe_int pa_nil))) pe_int))) pss_nil)
      (pss_one (ps_ret (pe_op op_add (pe_op op_sub (pe_cal cD hr (pa_cons (pv 0) (pa_cons (pe_op op_sub (pe_op op_mul pe_int (pv 1)) pe_int) pa_nil))) (pv 1)) pe_int)))), ?_⟩
    refine sq_if1 (fun b H1 => Keep a H H1 ∧ Src H1 a (n + 1)) (fun Q q => ⟨_, rfl, a, n, _, rfl, hs, by omega, by decide, by decide, fun H1 i k1 s1 _ _ => ⟨_, _, rfl, rfl, _, rfl, q _ _ ⟨k1, s1⟩⟩⟩) ?_ ?_
    · rintro H1 ⟨k1, s1⟩
      exact ⟨_, rfl, a, _, _, rfl, s1, by omega, by decide, by decide, fun H2 i k2 s2 i0 i1 => ⟨_, _, rfl, rfl, k _ _ (k1.trans k2) (s2.mono (by omega))⟩⟩
    · rintro H1 ⟨k1, s1⟩
      refine ⟨_, rfl, _, rfl, _, _, rfl, rfl, .inl ⟨by decide, by decide⟩, _, _, rfl, rfl, a, _, _, rfl, s1, by omega, by omega, by omega, fun H2 i k2 s2 i0 i1 => ⟨_, rfl, _, _, rfl, rfl, _, _, rfl, rfl, k _ _ (k1.trans k2) (s2.mono (by omega))⟩⟩
/-! messages -/
structure TxtC1 (K : PySem.W.Frag) (C : Addr) : Prop where
  cl : Cls K C
  nK : NoAttr K C "key"
  ha : PySem.W.findIn K (.ref C) "__class__" = some (some (.builtin "object.__class__"))
  hn : PySem.W.specialIn K (.builtin "object.__class__") "__get__" = some (some (.builtin "getset_descriptor.__get__"))
  ht : PySem.W.takesIn K (.builtin "object.__class__") = some true
  hm : PySem.W.mroIn K C (.type "object") = some true
def clsOf (CP CC CT : Addr) (z : Str) : Addr := if z = "put" then CP else if z = "change" then CC else CT
/-- a message, made since N -/
def Msg (CP CC CT : Addr) (N H : Hp) (m : Addr) (z : Str) (key : Int) (kvs : List (Key × V)) : Prop := N m = none ∧ ((z = "take" ∧ kvs = [] ∧ ∃ dx, H m = some (.ins CT dx [("key", .int key)])) ∨
  ((z = "put" ∨ z = "change") ∧ ∃ dx d, N d = none ∧ H m = some (.ins (clsOf CP CC CT z) dx [("key", .int key), ("_cells", .ref d)]) ∧ H d = some (.dK kvs)))
theorem Msg.same {CP CC CT : Addr} {N H G : Hp} {m : Addr} {z : Str} {key : Int} {kvs : List (Key × V)} (s : Same H G) (h : Msg CP CC CT N H m z key kvs) : Msg CP CC CT N G m z key kvs := by
  obtain ⟨n, h | ⟨hz, dx, d, nd, h1, h2⟩⟩ := h
  · obtain ⟨e1, e2, dx, h1⟩ := h
    exact ⟨n, .inl ⟨e1, e2, dx, s _ _ h1⟩⟩
  · exact ⟨n, .inr ⟨hz, dx, d, nd, s _ _ h1, s _ _ h2⟩⟩
theorem Msg.old {CP CC CT : Addr} {N M H : Hp} {m : Addr} {z : Str} {key : Int} {kvs : List (Key × V)} (s : Same M N) (h : Msg CP CC CT N H m z key kvs) : Msg CP CC CT M H m z key kvs := by
  obtain ⟨n, h | ⟨hz, dx, d, nd, h1, h2⟩⟩ := h
  · exact ⟨none_of_same s n, .inl h⟩
  · exact ⟨none_of_same s n, .inr ⟨hz, dx, d, none_of_same s nd, h1, h2⟩⟩
theorem Msg.upd {CP CC CT : Addr} {N H : Hp} {m : Addr} {z : Str} {key : Int} {kvs : List (Key × V)} {a : Addr} {o o2 : HO} (n : N a = some o) (h : Msg CP CC CT N H m z key kvs) : Msg CP CC CT N (upd H a o2) m z key kvs := by
  obtain ⟨nm, h | ⟨hz, dx, d, nd, h1, h2⟩⟩ := h
  · obtain ⟨e1, e2, dx, h1⟩ := h
    exact ⟨nm, .inl ⟨e1, e2, dx, by rw [upd_ne (ne_of_none n nm).symm]; exact h1⟩⟩
  · exact ⟨nm, .inr ⟨hz, dx, d, nd, by rw [upd_ne (ne_of_none n nm).symm]; exact h1, by rw [upd_ne (ne_of_none n nd).symm]; exact h2⟩⟩
def spMI (C : Addr) : Sp := fun vs H Q _ => ∃ (p dx c : Addr) (key : Int) (kvs : List (Key × V)), vs = [.ref p, .int key, .ref c] ∧ H p = some (.ins C dx []) ∧ H c = some (.dK kvs) ∧
  ∀ d, H d = none → Q .non (upd (upd (upd H p (.ins C dx [("key", .int key)])) d (.dK kvs)) p (.ins C dx [("key", .int key), ("_cells", .ref d)]))
theorem scPutI : FnScope ["self", "key", "cells"] ["self", "key", "cells"] (defScope sPutI) := ⟨rfl, rfl, rfl, by decide +kernel, rfl, by decide +kernel, by decide +kernel⟩
theorem ok_putI {C f : Addr} {fd : FuncData} (F : MethD K "__init__" "Put.__init__" sPutI f fd) (T : TxtC1 K C) (nC : NoAttr K C "_cells") (hd : mg "dict" = none) : FnOk P w K mg base CX0 1 f fd ["self", "key", "cells"] (spMI C) := by
  refine F.ok scPutI (fun vs H Q E h => ?_) (fun cdv A outer s H vs Q E hr h => ?_)
  · obtain ⟨p, dx, c, key, kvs, rfl, _⟩ := h
    rfl
  · obtain ⟨p, dx, c, key, kvs, rfl, hp, hc, k⟩ := h
    refine ⟨_, PSs.nox (pss_cons (ps_fld (pv 0) (pv 1) rfl) (pss_one (ps_fld (pv 0) (pe_callTy call_dictD (by rfl) hd (by decide +kernel) (pa_cons (pv 2) pa_nil)) rfl))), ?_⟩
    have ne : c ≠ p := fun z => by subst z; rw [hp] at hc; cases hc
    refine ⟨_, rfl, _, rfl, p, C, dx, _, rfl, hp, T.cl, T.nK, (by show 0 < 1000; decide), ?_⟩
    refine ⟨_, rfl, c, kvs, rfl, .inl (by rw [upd_ne ne]; exact hc), fun d nd => ?_⟩
    have ndp : d ≠ p := fun z => by subst z; rw [upd_same] at nd; cases nd
    refine ⟨_, rfl, p, C, dx, _, rfl, (by rw [upd_ne ndp.symm]; exact upd_same), T.cl, nC, (by show 1 < 1000; decide), ?_⟩
    rw [upd_ne ndp] at nd
    exact k d nd
theorem scChgI : FnScope ["self", "key", "cells"] ["self", "key", "cells"] (defScope sChgI) := ⟨rfl, rfl, rfl, by decide +kernel, rfl, by decide +kernel, by decide +kernel⟩
theorem ok_chgI {C f : Addr} {fd : FuncData} (F : MethD K "__init__" "Change.__init__" sChgI f fd) (T : TxtC1 K C) (nC : NoAttr K C "_cells") (hd : mg "dict" = none) : FnOk P w K mg base CX0 1 f fd ["self", "key", "cells"] (spMI C) := by
  refine F.ok scChgI (fun vs H Q E h => ?_) (fun cdv A outer s H vs Q E hr h => ?_)
  · obtain ⟨p, dx, c, key, kvs, rfl, _⟩ := h
    rfl
  · obtain ⟨p, dx, c, key, kvs, rfl, hp, hc, k⟩ := h
    refine ⟨_, PSs.nox (pss_cons (ps_fld (pv 0) (pv 1) rfl) (pss_one (ps_fld (pv 0) (pe_callTy call_dictD (by rfl) hd (by decide +kernel) (pa_cons (pv 2) pa_nil)) rfl))), ?_⟩
    have ne : c ≠ p := fun z => by subst z; rw [hp] at hc; cases hc
    refine ⟨_, rfl, _, rfl, p, C, dx, _, rfl, hp, T.cl, T.nK, (by show 0 < 1000; decide), ?_⟩
    refine ⟨_, rfl, c, kvs, rfl, .inl (by rw [upd_ne ne]; exact hc), fun d nd => ?_⟩
    have ndp : d ≠ p := fun z => by subst z; rw [upd_same] at nd; cases nd
    refine ⟨_, rfl, p, C, dx, _, rfl, (by rw [upd_ne ndp.symm]; exact upd_same), T.cl, nC, (by show 1 < 1000; decide), ?_⟩
    rw [upd_ne ndp] at nd
    exact k d nd
theorem scTakeI : FnScope ["self", "key"] ["self", "key"] (defScope sTakeI) := ⟨rfl, rfl, rfl, by decide +kernel, rfl, by decide +kernel, by decide +kernel⟩
def spTI (C : Addr) : Sp := fun vs H Q _ => ∃ (p dx : Addr) (key : Int), vs = [.ref p, .int key] ∧ H p = some (.ins C dx []) ∧ Q .non (upd H p (.ins C dx [("key", .int key)]))
theorem ok_takeI {C f : Addr} {fd : FuncData} (F : MethD K "__init__" "Take.__init__" sTakeI f fd) (T : TxtC1 K C) : FnOk P w K mg base CX0 1 f fd ["self", "key"] (spTI C) := by
  refine F.ok scTakeI (fun vs H Q E h => ?_) (fun cdv A outer s H vs Q E hr h => ?_)
  · obtain ⟨p, dx, key, rfl, _⟩ := h
    rfl
  · obtain ⟨p, dx, key, rfl, hp, k⟩ := h
    refine ⟨_, PSs.nox (pss_one (ps_fld (pv 0) (pv 1) rfl)), ?_⟩
    exact ⟨_, rfl, _, rfl, p, C, dx, _, rfl, hp, T.cl, T.nK, (by show 0 < 1000; decide), k⟩
/-! the cells of a message -/
def spCel (C : Addr) : Sp := fun vs H Q _ => ∃ (p dx d : Addr) (key : Int) (kvs : List (Key × V)), vs = [.ref p] ∧ H p = some (.ins C dx [("key", .int key), ("_cells", .ref d)]) ∧ H d = some (.dK kvs) ∧ ∀ q, H q = none → Q (.ref q) (upd H q (.dK kvs))
def spCel0 : Sp := fun vs H Q _ => ∃ (p : Addr), vs = [.ref p] ∧ ∀ q, H q = none → Q (.ref q) (upd H q (.dK []))
theorem scPutC : FnScope ["self"] ["self"] (defScope sPutC) := ⟨rfl, rfl, rfl, by decide +kernel, rfl, by decide +kernel, by decide +kernel⟩
theorem ok_putC {C f : Addr} {fd : FuncData} (F : MethD K "cells" "Put.cells" sPutC f fd) (T : TxtC1 K C) (nC : NoAttr K C "_cells") (hd : mg "dict" = none) : FnOk P w K mg base CX0 1 f fd ["self"] (spCel C) := by
  refine F.ok scPutC (fun vs H Q E h => ?_) (fun cdv A outer s H vs Q E hr h => ?_)
  · obtain ⟨p, dx, d, key, kvs, rfl, _⟩ := h
    rfl
  · obtain ⟨p, dx, d, key, kvs, rfl, hp, hc, k⟩ := h
    refine ⟨_, PSs.nox (pss_one (ps_ret (pe_callTy call_dictD (by rfl) hd (by decide +kernel) (pa_cons (pe_fld (pv 0) (by rfl)) pa_nil)))), ?_⟩
    exact ⟨_, rfl, p, C, dx, _, .ref d, rfl, hp, T.cl, nC, rfl, d, kvs, rfl, .inl hc, fun q nq => k q nq⟩
theorem scChgC : FnScope ["self"] ["self"] (defScope sChgC) := ⟨rfl, rfl, rfl, by decide +kernel, rfl, by decide +kernel, by decide +kernel⟩
theorem ok_chgC {C f : Addr} {fd : FuncData} (F : MethD K "cells" "Change.cells" sChgC f fd) (T : TxtC1 K C) (nC : NoAttr K C "_cells") (hd : mg "dict" = none) : FnOk P w K mg base CX0 1 f fd ["self"] (spCel C) := by
  refine F.ok scChgC (fun vs H Q E h => ?_) (fun cdv A outer s H vs Q E hr h => ?_)
  · obtain ⟨p, dx, d, key, kvs, rfl, _⟩ := h
    rfl
  · obtain ⟨p, dx, d, key, kvs, rfl, hp, hc, k⟩ := h
    refine ⟨_, PSs.nox (pss_one (ps_ret (pe_callTy call_dictD (by rfl) hd (by decide +kernel) (pa_cons (pe_fld (pv 0) (by rfl)) pa_nil)))), ?_⟩
    exact ⟨_, rfl, p, C, dx, _, .ref d, rfl, hp, T.cl, nC, rfl, d, kvs, rfl, .inl hc, fun q nq => k q nq⟩
theorem scTakeC : FnScope ["self"] ["self"] (defScope sTakeC) := ⟨rfl, rfl, rfl, by decide +kernel, rfl, by decide +kernel, by decide +kernel⟩
theorem ok_takeC {f : Addr} {fd : FuncData} (F : MethD K "cells" "Take.cells" sTakeC f fd) : FnOk P w K mg base CX0 1 f fd ["self"] spCel0 := by
  refine F.ok scTakeC (fun vs H Q E h => ?_) (fun cdv A outer s H vs Q E hr h => ?_)
  · obtain ⟨p, rfl, _⟩ := h
    rfl
  · obtain ⟨p, rfl, k⟩ := h
    refine ⟨_, PSs.nox (pss_one (ps_ret pe_dnewK)), ?_⟩
    exact fun q nq => k q nq
/-- Put(key, cells) and Change(key, cells), made -/
theorem msg_new {CP CC CT c : Addr} {z : Str} {key : Int} {kvs : List (Key × V)} {H : Hp} {R : Addr → Hp → Prop} {E : XK} (hz : z = "put" ∨ z = "change") (hc : H c = some (.dK kvs)) (k : ∀ p G, H p = none → Same H G → Msg CP CC CT H G p z key kvs → R p G) :
    ∀ x dx, H x = none → H dx = none → dx ≠ x → spMI (clsOf CP CC CT z) [.ref x, .int key, .ref c] (upd (upd H dx (.own x)) x (.ins (clsOf CP CC CT z) dx [])) (fun v H2 => v = .non ∧ R x H2) E := fun x dx nx nd ne => by
  refine ⟨x, dx, c, key, kvs, rfl, upd_same, by rw [upd_ne (ne_of_none hc nx), upd_ne (ne_of_none hc nd)]; exact hc, fun d hd => ⟨rfl, ?_⟩⟩
  have dx' : d ≠ x := fun z => by subst z; rw [upd_same] at hd; cases hd
  have ndd : H d = none := by
    rw [upd_ne dx'] at hd
    cases e : H d with
    | none => rfl
    | some o => rw [upd_ne (ne_of_none e nd)] at hd; rw [e] at hd; cases hd
  have s : Same H (upd (upd (upd (upd (upd H dx (.own x)) x (.ins (clsOf CP CC CT z) dx [])) x (.ins (clsOf CP CC CT z) dx [("key", .int key)])) d (.dK kvs)) x (.ins (clsOf CP CC CT z) dx [("key", .int key), ("_cells", .ref d)])) :=
    same_at nx (same_at ndd (same_at nx (same_at nx (same_at nd (Same.refl H)))))
  exact k x _ nx s ⟨nx, .inr ⟨hz, dx, d, ndd, upd_same, by rw [upd_ne dx', upd_same]⟩⟩
theorem take_new {CP CC CT : Addr} {key : Int} {H : Hp} {R : Addr → Hp → Prop} {E : XK} (k : ∀ p G, H p = none → Same H G → Msg CP CC CT H G p "take" key [] → R p G) :
    ∀ x dx, H x = none → H dx = none → dx ≠ x → spTI CT [.ref x, .int key] (upd (upd H dx (.own x)) x (.ins CT dx [])) (fun v H2 => v = .non ∧ R x H2) E := fun x dx nx nd ne =>
  ⟨x, dx, key, rfl, upd_same, rfl, k x _ nx (same_at nx (same_at nx (same_at nd (Same.refl H)))) ⟨nx, .inl ⟨rfl, rfl, dx, upd_same⟩⟩⟩
end
end Lw

set_option Elab.async false
set_option linter.all false
set_option maxRecDepth 100000
set_option maxHeartbeats 4000000
namespace Lw
open PySem PySem.Spec PyProof.Rows L2

abbrev sPutE : Stmt := inClass (top 2) 3
abbrev sChgE : Stmt := inClass (top 3) 3
abbrev sTakeE : Stmt := inClass (top 4) 3
section
variable {P : Program} {w : World} {K : PySem.W.Frag} {mg : Str → Option Value} {base : Heap}
/-! messages compared -/
def deeds : List Str := ["put", "change", "take"]
def plT : List String := ["NoneType", "int", "bool", "str", "tuple", "list", "dict"]
theorem kit_own {D : Addr} : PySem.W.kitOne K (.ref D) (.ref D) = some true := by
  unfold PySem.W.kitOne
  simp
theorem Msg.deed {CP CC CT : Addr} {N H : Hp} {m : Addr} {z : Str} {key : Int} {kvs : List (Key × V)} (h : Msg CP CC CT N H m z key kvs) : z ∈ deeds := by
  obtain ⟨n, h | ⟨hz, _⟩⟩ := h
  · rw [h.1]; decide
  · rcases hz with rfl | rfl <;> decide
def spMEq (K : PySem.W.Frag) (C : Addr) : Sp := fun vs H Q _ => ∃ (p dx d : Addr) (key : Int) (kvs : List (Key × V)) (y : V), vs = [.ref p, y] ∧ H p = some (.ins C dx [("key", .int key), ("_cells", .ref d)]) ∧ H d = some (.dK kvs) ∧ RowOk kvs ∧
  ((∃ (q dq dd : Addr) (key2 : Int) (kvs2 : List (Key × V)), y = .ref q ∧ H q = some (.ins C dq [("key", .int key2), ("_cells", .ref dd)]) ∧ H dd = some (.dK kvs2) ∧ RowOk kvs2 ∧ Q (.bl (decide (key = key2) && sameK kvs kvs2)) H) ∨
   (∃ t, TyX K H y t ∧ PySem.W.kitOne K t (.ref C) = some false) ∧ Q (.bl false) H)
theorem scPutE : FnScope ["self", "other"] ["self", "other"] (defScope sPutE) := ⟨rfl, rfl, rfl, by decide +kernel, rfl, by decide +kernel, by decide +kernel⟩
theorem ok_putE {C f : Addr} {fd : FuncData} (F : MethD K "__eq__" "Put.__eq__" sPutE f fd) (T : TxtC1 K C) (nC : NoAttr K C "_cells") (gC : mg "Put" = some (.ref C)) (hi : mg "isinstance" = none) : FnOk P w K mg base CX0 1 f fd ["self", "other"] (spMEq K C) := by
  refine F.ok scPutE (fun vs H Q E h => ?_) (fun cdv A outer s H vs Q E hr h => ?_)
  · obtain ⟨p, dx, d, key, kvs, y, rfl, _⟩ := h
    rfl
  · obtain ⟨p, dx, d, key, kvs, y, rfl, hp, hd, rk, h⟩ := h
    refine ⟨_, PSs.nox (pss_one (ps_ret (pe_and (pe_callB call_isi (by rfl) hi (by decide +kernel) (pa_cons (pv 1) (pa_cons (pe_glob (v := .ref C) rfl gC rfl) pa_nil)))
      (pe_and (pe_cmpR op_eq (pe_fld (pv 0) (by rfl)) (pe_fld (pv 1) (by rfl)) (nomark _)) (pe_one (pe_cmpR (op_eq_dB hr.units) (pe_fld (pv 0) (by rfl)) (pe_fld (pv 1) (by rfl)) (nomark _))))))), ?_⟩
    rcases h with ⟨q, dq, dd, key2, kvs2, rfl, hq, hdd, rk2, k⟩ | ⟨⟨t, ht, kt⟩, k⟩
    · refine ⟨_, rfl, _, _, _, _, true, rfl, .own C, .base (.ins hq T.cl T.ha T.hn T.ht T.hm), kit_own, true, rfl, iteT ?_⟩
      refine ⟨_, rfl, p, C, dx, _, .int key, rfl, hp, T.cl, T.nK, rfl, _, rfl, q, C, dq, _, .int key2, rfl, hq, T.cl, T.nK, rfl, rfl, _, rfl, ?_⟩
      by_cases e : key = key2
      · subst e
        rw [decide_eq_true rfl] at k
        refine it_bt (by simp) ?_
        exact ⟨_, rfl, p, C, dx, _, .ref d, rfl, hp, T.cl, nC, rfl, _, rfl, q, C, dq, _, .ref dd, rfl, hq, T.cl, nC, rfl, d, dd, kvs, kvs2, rfl, rfl, hd, hdd, rk.nodup, rk.2.1, rk2.2.1, k⟩
      · rw [decide_eq_false e] at k
        refine it_bf (decide_eq_false fun h => e (V.int.inj h)) ?_
        exact k
    · exact ⟨_, rfl, _, _, _, _, false, rfl, .own C, ht, kt, false, rfl, iteF k⟩
theorem scChgE : FnScope ["self", "other"] ["self", "other"] (defScope sChgE) := ⟨rfl, rfl, rfl, by decide +kernel, rfl, by decide +kernel, by decide +kernel⟩
theorem ok_chgE {C f : Addr} {fd : FuncData} (F : MethD K "__eq__" "Change.__eq__" sChgE f fd) (T : TxtC1 K C) (nC : NoAttr K C "_cells") (gC : mg "Change" = some (.ref C)) (hi : mg "isinstance" = none) : FnOk P w K mg base CX0 1 f fd ["self", "other"] (spMEq K C) := by
  refine F.ok scChgE (fun vs H Q E h => ?_) (fun cdv A outer s H vs Q E hr h => ?_)
  · obtain ⟨p, dx, d, key, kvs, y, rfl, _⟩ := h
    rfl
  · obtain ⟨p, dx, d, key, kvs, y, rfl, hp, hd, rk, h⟩ := h
    refine ⟨_, PSs.nox (pss_one (ps_ret (pe_and (pe_callB call_isi (by rfl) hi (by decide +kernel) (pa_cons (pv 1) (pa_cons (pe_glob (v := .ref C) rfl gC rfl) pa_nil)))
      (pe_and (pe_cmpR op_eq (pe_fld (pv 0) (by rfl)) (pe_fld (pv 1) (by rfl)) (nomark _)) (pe_one (pe_cmpR (op_eq_dB hr.units) (pe_fld (pv 0) (by rfl)) (pe_fld (pv 1) (by rfl)) (nomark _))))))), ?_⟩
    rcases h with ⟨q, dq, dd, key2, kvs2, rfl, hq, hdd, rk2, k⟩ | ⟨⟨t, ht, kt⟩, k⟩
    · refine ⟨_, rfl, _, _, _, _, true, rfl, .own C, .base (.ins hq T.cl T.ha T.hn T.ht T.hm), kit_own, true, rfl, iteT ?_⟩
      refine ⟨_, rfl, p, C, dx, _, .int key, rfl, hp, T.cl, T.nK, rfl, _, rfl, q, C, dq, _, .int key2, rfl, hq, T.cl, T.nK, rfl, rfl, _, rfl, ?_⟩
      by_cases e : key = key2
      · subst e
        rw [decide_eq_true rfl] at k
        refine it_bt (by simp) ?_
        exact ⟨_, rfl, p, C, dx, _, .ref d, rfl, hp, T.cl, nC, rfl, _, rfl, q, C, dq, _, .ref dd, rfl, hq, T.cl, nC, rfl, d, dd, kvs, kvs2, rfl, rfl, hd, hdd, rk.nodup, rk.2.1, rk2.2.1, k⟩
      · rw [decide_eq_false e] at k
        refine it_bf (decide_eq_false fun h => e (V.int.inj h)) ?_
        exact k
    · exact ⟨_, rfl, _, _, _, _, false, rfl, .own C, ht, kt, false, rfl, iteF k⟩
def spTEq (K : PySem.W.Frag) (C : Addr) : Sp := fun vs H Q _ => ∃ (p dx : Addr) (key : Int) (y : V), vs = [.ref p, y] ∧ H p = some (.ins C dx [("key", .int key)]) ∧
  ((∃ (q dq : Addr) (key2 : Int), y = .ref q ∧ H q = some (.ins C dq [("key", .int key2)]) ∧ Q (.bl (decide (key = key2))) H) ∨ (∃ t, TyX K H y t ∧ PySem.W.kitOne K t (.ref C) = some false) ∧ Q (.bl false) H)
theorem scTakeE : FnScope ["self", "other"] ["self", "other"] (defScope sTakeE) := ⟨rfl, rfl, rfl, by decide +kernel, rfl, by decide +kernel, by decide +kernel⟩
theorem ok_takeE {C f : Addr} {fd : FuncData} (F : MethD K "__eq__" "Take.__eq__" sTakeE f fd) (T : TxtC1 K C) (gC : mg "Take" = some (.ref C)) (hi : mg "isinstance" = none) : FnOk P w K mg base CX0 1 f fd ["self", "other"] (spTEq K C) := by
  refine F.ok scTakeE (fun vs H Q E h => ?_) (fun cdv A outer s H vs Q E hr h => ?_)
  · obtain ⟨p, dx, key, y, rfl, _⟩ := h
    rfl
  · obtain ⟨p, dx, key, y, rfl, hp, h⟩ := h
    refine ⟨_, PSs.nox (pss_one (ps_ret (pe_and (pe_callB call_isi (by rfl) hi (by decide +kernel) (pa_cons (pv 1) (pa_cons (pe_glob (v := .ref C) rfl gC rfl) pa_nil))) (pe_one (pe_cmpR op_eq (pe_fld (pv 0) (by rfl)) (pe_fld (pv 1) (by rfl)) (nomark _)))))), ?_⟩
    rcases h with ⟨q, dq, key2, rfl, hq, k⟩ | ⟨⟨t, ht, kt⟩, k⟩
    · refine ⟨_, rfl, _, _, _, _, true, rfl, .own C, .base (.ins hq T.cl T.ha T.hn T.ht T.hm), kit_own, true, rfl, iteT ?_⟩
      refine ⟨_, rfl, p, C, dx, _, .int key, rfl, hp, T.cl, T.nK, rfl, _, rfl, q, C, dq, _, .int key2, rfl, hq, T.cl, T.nK, rfl, rfl, ?_⟩
      have e : decide (V.int key = V.int key2) = decide (key = key2) := by
        by_cases e : key = key2
        · rw [decide_eq_true e, decide_eq_true (by rw [e])]
        · rw [decide_eq_false e, decide_eq_false fun h => e (V.int.inj h)]
      rw [e]
      exact k
    · exact ⟨_, rfl, _, _, _, _, false, rfl, .own C, ht, kt, false, rfl, iteF k⟩
/-- what the text's classes must have for == and != -/
structure EqM (P : Program) (w : World) (K : PySem.W.Frag) (mg : Str → Option Value) (base : Heap) (C : Addr) (sp : Sp) : Prop where
  T : TxtC1 K C
  ex : ∃ f fd, Oq.EqC K C f ∧ FnOk P w K mg base CX0 1 f fd ["self", "other"] sp ∧ Binds K fd ["self", "other"] []
  pl : ∀ t ∈ plT, PySem.W.notFirst K C (.type t) = true ∧ PySem.W.kitOne K (.type t) (.ref C) = some false
structure EqF (P : Program) (w : World) (K : PySem.W.Frag) (mg : Str → Option Value) (base : Heap) (CP CC CT : Addr) : Prop where
  eP : EqM P w K mg base CP (spMEq K CP)
  eC : EqM P w K mg base CC (spMEq K CC)
  eT : EqM P w K mg base CT (spTEq K CT)
  nf : ∀ z ∈ deeds, ∀ z2 ∈ deeds, PySem.W.notFirst K (clsOf CP CC CT z) (.ref (clsOf CP CC CT z2)) = true ∧ (z ≠ z2 → PySem.W.kitOne K (.ref (clsOf CP CC CT z2)) (.ref (clsOf CP CC CT z)) = some false)
def rMs (K : PySem.W.Frag) (CP CC CT : Addr) (g : Bool → Bool) : R2 := fun x y H Q => Oq.rOwn K CP (spMEq K CP) g x y H Q ∨ (Oq.rOwn K CC (spMEq K CC) g x y H Q ∨ Oq.rOwn K CT (spTEq K CT) g x y H Q)
theorem opr_or {X : Cx} {op : Value → Value → Sem Value} {r1 r2 : R2} (h1 : OpR X op r1) (h2 : OpR X op r2) : OpR X op (fun x y H Q => r1 x y H Q ∨ r2 x y H Q) := fun pins s σ H x y v u Q I rx ry h => h.elim (h1 pins s σ H x y v u Q I rx ry) (h2 pins s σ H x y v u Q I rx ry)
theorem op_eqMs {X : Cx} {CP CC CT : Addr} (M : EqF X.prog X.w X.K X.mg X.base CP CC CT) (hr : Room 1 X.A) : OpR X (compareOp .Eq) (rMs X.K CP CC CT id) := by
  obtain ⟨_, _, E1, F1, b1⟩ := M.eP.ex
  obtain ⟨_, _, E2, F2, b2⟩ := M.eC.ex
  obtain ⟨_, _, E3, F3, b3⟩ := M.eT.ex
  exact opr_or (Oq.op_eqI E1 F1 b1 hr) (opr_or (Oq.op_eqI E2 F2 b2 hr) (Oq.op_eqI E3 F3 b3 hr))
theorem op_neMs {X : Cx} {CP CC CT : Addr} (M : EqF X.prog X.w X.K X.mg X.base CP CC CT) (hr : Room 2 X.A) : OpR X (compareOp .NotEq) (rMs X.K CP CC CT Bool.not) := by
  obtain ⟨_, _, E1, F1, b1⟩ := M.eP.ex
  obtain ⟨_, _, E2, F2, b2⟩ := M.eC.ex
  obtain ⟨_, _, E3, F3, b3⟩ := M.eT.ex
  exact opr_or (Oq.op_neI E1 F1 b1 hr) (opr_or (Oq.op_neI E2 F2 b2 hr) (Oq.op_neI E3 F3 b3 hr))
/-- plain values -/
inductive Pl (H : Hp) : V → String → Prop where
  | non : Pl H .non "NoneType"
  | int (i : Int) : Pl H (.int i) "int"
  | bl (b : Bool) : Pl H (.bl b) "bool"
  | str (z : Str) : Pl H (.str z) "str"
  | tup {p : Addr} {xs : List V} (h : H p = some (.tup xs)) : Pl H (.ref p) "tuple"
  | lst {p : Addr} {xs : List V} (h : H p = some (.lst xs)) : Pl H (.ref p) "list"
  | dic {p : Addr} {kvs : List (Key × V)} (h : H p = some (.dK kvs)) : Pl H (.ref p) "dict"
theorem Pl.cv {H : Hp} {y : V} {t : String} {C : Addr} (h : Pl H y t) : Oq.Cv C H y (.type t) ∧ TyX K H y (.type t) ∧ t ∈ plT := by
  cases h with
  | non => exact ⟨.non, .base .non, by decide⟩
  | int i => exact ⟨.int i, .base (.int i), by decide⟩
  | bl b => exact ⟨.bl b, .base (.bl b), by decide⟩
  | str z => exact ⟨.str z, .base (.str z), by decide⟩
  | tup h => exact ⟨.tup h, .base (.tup h), by decide⟩
  | lst h => exact ⟨.lst h, .base (.lst h), by decide⟩
  | dic h => exact ⟨.dic h, .base (.dK h), by decide⟩
theorem ms_plain {CP CC CT m : Addr} {N H : Hp} {z : Str} {key : Int} {kvs : List (Key × V)} {y : V} {t : String} {g : Bool → Bool} {Q : VK} (M : EqF P w K mg base CP CC CT) (hm : Msg CP CC CT N H m z key kvs) (rk : RowOk kvs) (hp : Pl H y t) (q : Q (.bl (g false)) H) : rMs K CP CC CT g (.ref m) y H Q := by
  obtain ⟨n, h | ⟨hz, dx, d, nd, h1, h2⟩⟩ := hm
  · obtain ⟨rfl, _, dx, h1⟩ := h
    obtain ⟨c1, c2, c3⟩ := hp.cv (K := K) (C := CT)
    exact .inr (.inr ⟨m, dx, _, _, rfl, h1, c1, (M.eT.pl t c3).1, m, dx, key, y, rfl, h1, .inr ⟨⟨_, c2, (M.eT.pl t c3).2⟩, false, rfl, q⟩⟩)
  · rcases hz with rfl | rfl
    · obtain ⟨c1, c2, c3⟩ := hp.cv (K := K) (C := CP)
      exact .inl ⟨m, dx, _, _, rfl, h1, c1, (M.eP.pl t c3).1, m, dx, d, key, kvs, y, rfl, h1, h2, rk, .inr ⟨⟨_, c2, (M.eP.pl t c3).2⟩, false, rfl, q⟩⟩
    · obtain ⟨c1, c2, c3⟩ := hp.cv (K := K) (C := CC)
      exact .inr (.inl ⟨m, dx, _, _, rfl, h1, c1, (M.eC.pl t c3).1, m, dx, d, key, kvs, y, rfl, h1, h2, rk, .inr ⟨⟨_, c2, (M.eC.pl t c3).2⟩, false, rfl, q⟩⟩)
theorem EqF.txt {CP CC CT : Addr} (M : EqF P w K mg base CP CC CT) {z : Str} (hz : z ∈ deeds) : TxtC1 K (clsOf CP CC CT z) := by
  rcases List.mem_cons.mp hz with rfl | hz
  · exact M.eP.T
  rcases List.mem_cons.mp hz with rfl | hz
  · exact M.eC.T
  rcases List.mem_cons.mp hz with rfl | hz
  · exact M.eT.T
  cases hz
theorem Msg.ins {CP CC CT : Addr} {N H : Hp} {m : Addr} {z : Str} {key : Int} {kvs : List (Key × V)} (h : Msg CP CC CT N H m z key kvs) : ∃ dx fs, H m = some (.ins (clsOf CP CC CT z) dx fs) := by
  obtain ⟨n, h | ⟨hz, dx, d, nd, h1, h2⟩⟩ := h
  · obtain ⟨rfl, _, dx, h1⟩ := h
    exact ⟨dx, _, h1⟩
  · exact ⟨dx, _, h1⟩
theorem ms_ms {CP CC CT m m2 : Addr} {N N2 H : Hp} {z z2 : Str} {key key2 : Int} {kvs kvs2 : List (Key × V)} {g : Bool → Bool} {Q : VK} (M : EqF P w K mg base CP CC CT) (hm : Msg CP CC CT N H m z key kvs) (hm2 : Msg CP CC CT N2 H m2 z2 key2 kvs2) (rk : RowOk kvs) (rk2 : RowOk kvs2)
    (q : Q (.bl (g (decide (z = z2) && (decide (key = key2) && sameK kvs kvs2)))) H) : rMs K CP CC CT g (.ref m) (.ref m2) H Q := by
  have hz := hm.deed
  have hz2 := hm2.deed
  obtain ⟨nf, kf⟩ := M.nf z hz z2 hz2
  obtain ⟨dx2, fs2, hi⟩ := hm2.ins
  have T2 := M.txt hz2
  have cv : ∀ C, Oq.Cv C H (.ref m2) (.ref (clsOf CP CC CT z2)) := fun C => .ins hi
  have ty : TyX K H (.ref m2) (.ref (clsOf CP CC CT z2)) := .base (.ins hi T2.cl T2.ha T2.hn T2.ht T2.hm)
  by_cases e : z = z2
  · subst e
    rw [decide_eq_true rfl] at q
    obtain ⟨n, h | ⟨hz', dx, d, nd, h1, h2⟩⟩ := hm
    · obtain ⟨rfl, rfl, dx, h1⟩ := h
      obtain ⟨n2, h' | ⟨hz'', _⟩⟩ := hm2
      · obtain ⟨_, rfl, dq, h1'⟩ := h'
        have e1 : sameK [] [] = true := rfl
        rw [e1, Bool.and_true, Bool.true_and] at q
        exact .inr (.inr ⟨m, dx, _, _, rfl, h1, cv CT, nf, m, dx, key, _, rfl, h1, .inl ⟨m2, dq, key2, rfl, h1', _, rfl, q⟩⟩)
      · rcases hz'' with h | h <;> exact absurd h (by decide)
    · obtain ⟨n2, h' | ⟨hz'', dq, dd, _, h1', h2'⟩⟩ := hm2
      · rw [h'.1] at hz'
        rcases hz' with h | h <;> exact absurd h (by decide)
      · rw [Bool.true_and] at q
        rcases hz' with rfl | rfl
        · exact .inl ⟨m, dx, _, _, rfl, h1, cv CP, nf, m, dx, d, key, kvs, _, rfl, h1, h2, rk, .inl ⟨m2, dq, dd, key2, kvs2, rfl, h1', h2', rk2, _, rfl, q⟩⟩
        · exact .inr (.inl ⟨m, dx, _, _, rfl, h1, cv CC, nf, m, dx, d, key, kvs, _, rfl, h1, h2, rk, .inl ⟨m2, dq, dd, key2, kvs2, rfl, h1', h2', rk2, _, rfl, q⟩⟩)
  · rw [decide_eq_false e, Bool.false_and] at q
    have kf2 := kf e
    obtain ⟨n, h | ⟨hz', dx, d, nd, h1, h2⟩⟩ := hm
    · obtain ⟨rfl, _, dx, h1⟩ := h
      exact .inr (.inr ⟨m, dx, _, _, rfl, h1, cv CT, nf, m, dx, key, _, rfl, h1, .inr ⟨⟨_, ty, kf2⟩, false, rfl, q⟩⟩)
    · rcases hz' with rfl | rfl
      · exact .inl ⟨m, dx, _, _, rfl, h1, cv CP, nf, m, dx, d, key, kvs, _, rfl, h1, h2, rk, .inr ⟨⟨_, ty, kf2⟩, false, rfl, q⟩⟩
      · exact .inr (.inl ⟨m, dx, _, _, rfl, h1, cv CC, nf, m, dx, d, key, kvs, _, rfl, h1, h2, rk, .inr ⟨⟨_, ty, kf2⟩, false, rfl, q⟩⟩)
end
end Lw

set_option Elab.async false
set_option linter.all false
set_option maxRecDepth 100000
set_option maxHeartbeats 4000000
namespace Lw
open PySem PySem.Spec PyProof.Rows L2

abbrev sMessage : Stmt := top 12
abbrev sTurned : Stmt := top 14
section
variable {P : Program} {w : World} {K : PySem.W.Frag} {mg : Str → Option Value} {base : Heap}
/-! a message made in the law; cells turned round -/
structure MkS (P : Program) (w : World) (K : PySem.W.Frag) (mg : Str → Option Value) (base : Heap) (x : Str) (C : Addr) (sp : Sp) (ps : List Str) : Prop where
  g : mg x = some (.ref C)
  ex : ∃ f fd, Mk K C f ∧ FnOk P w K mg base CX0 1 f fd ps sp ∧ Binds K fd ps []
def spMsg (CP CC CT : Addr) : Sp := fun vs H Q _ => ∃ (z : Str) (key : Int) (c : Addr) (kvs : List (Key × V)), vs = [.str z, .int key, .ref c] ∧ z ∈ deeds ∧ H c = some (.dK kvs) ∧ (z = "take" → kvs = []) ∧ ∀ m G, Same H G → Msg CP CC CT H G m z key kvs → Q (.ref m) G
theorem scMessage : FnScope ["deed", "key", "cells"] ["deed", "key", "cells"] (defScope sMessage) := ⟨rfl, rfl, rfl, by decide +kernel, rfl, by decide +kernel, by decide +kernel⟩
theorem ok_message {CP CC CT f : Addr} {fd : FuncData} (F : FnP K "_law_message" sMessage f fd) (hd : mg "dict" = none) (mP : MkS P w K mg base "Put" CP (spMI CP) ["self", "key", "cells"]) (mC : MkS P w K mg base "Change" CC (spMI CC) ["self", "key", "cells"]) (mT : MkS P w K mg base "Take" CT (spTI CT) ["self", "key"]) :
    FnOk P w K mg base CX0 3 f fd ["deed", "key", "cells"] (spMsg CP CC CT) := by
  obtain ⟨fP, fdP, MP, FP, bP⟩ := mP.ex
  obtain ⟨fC, fdC, MC, FC, bC⟩ := mC.ex
  obtain ⟨fT, fdT, MT, FT, bT⟩ := mT.ex
  refine F.ok scMessage (fun vs H Q E h => ?_) (fun cdv A outer s H vs Q E hr h => ?_)
  · obtain ⟨z, key, c, kvs, rfl, _⟩ := h
    rfl
  · obtain ⟨z, key, c, kvs, rfl, hz, hc, ht, k⟩ := h
    refine ⟨_, PSs.nox (pss_cons (ps_if (pt_cmpR op_eq (pv 0) pe_str (nomark _)) (pss_one (ps_ret (pe_make MT FT hr (by rfl) mT.g bT .nil pass0 (pa_cons (pv 1) pa_nil)))) pss_nil)
      (pss_one (ps_ret (pe_ifExp (pt_cmpR op_eq (pv 0) pe_str (nomark _)) (pe_make MP FP hr (by rfl) mP.g bP .nil pass0 (pa_cons (pv 1) (pa_cons (pe_callTy call_dictD (by rfl) hd (by decide +kernel) (pa_cons (pv 2) pa_nil)) pa_nil)))
        (pe_make MC FC hr (by rfl) mC.g bC .nil pass0 (pa_cons (pv 1) (pa_cons (pe_callTy call_dictD (by rfl) hd (by decide +kernel) (pa_cons (pv 2) pa_nil)) pa_nil))))))), ?_⟩
    refine ⟨_, rfl, rfl, _, rfl, str_it (fun e => ?_) (fun e => ?_)⟩
    · subst e
      have e2 := ht rfl
      subst e2
      exact ⟨_, rfl, take_new (CP := CP) (CC := CC) (CT := CT) fun m G nm sm hm => k m G sm hm⟩
    · refine ⟨_, rfl, rfl, _, rfl, str_it (fun e2 => ?_) (fun e2 => ?_)⟩
      · subst e2
        refine ⟨_, rfl, _, rfl, c, kvs, rfl, .inl hc, fun q nq => ?_⟩
        have s1 : Same H (upd H q (.dK kvs)) := Lw.Same.new (Same.refl H) nq
        exact msg_new (CP := CP) (CC := CC) (CT := CT) (z := "put") (.inl rfl) upd_same fun m G nm sm hm => k m G (s1.trans sm) (hm.old s1)
      · have e3 : z = "change" := by
          rcases List.mem_cons.mp hz with h | h
          · exact absurd h e2
          rcases List.mem_cons.mp h with h | h
          · exact h
          rcases List.mem_cons.mp h with h | h
          · exact absurd h e
          cases h
        subst e3
        refine ⟨_, rfl, _, rfl, c, kvs, rfl, .inl hc, fun q nq => ?_⟩
        have s1 : Same H (upd H q (.dK kvs)) := Lw.Same.new (Same.refl H) nq
        exact msg_new (CP := CP) (CC := CC) (CT := CT) (z := "change") (.inr rfl) upd_same fun m G nm sm hm => k m G (s1.trans sm) (hm.old s1)
theorem valV_rev {kvs : List (Key × V)} (h : RowOk kvs) (k : Key) : valV kvs.reverse k = valV kvs k := by
  have n := h.nodup
  have n2 := h.rev.nodup
  by_cases hm : k ∈ kvs.map (·.1)
  · obtain ⟨v, hv, hp⟩ := val_some n hm
    rw [hv, valV_mem n2 (k, v) (List.mem_reverse.mpr hp)]
  · have hm2 : k ∉ kvs.reverse.map (·.1) := fun h => hm (by
      obtain ⟨p, hp, e⟩ := List.mem_map.mp h
      exact List.mem_map.mpr ⟨p, List.mem_reverse.mp hp, e⟩)
    rw [val_none hm, val_none hm2]
theorem paired_len {α β : Type} {R : α → β → Prop} : ∀ {as : List α} {bs : List β}, Paired R as bs → as.length = bs.length
  | _, _, .nil => rfl
  | _, _, .cons _ t => by rw [List.length_cons, List.length_cons, paired_len t]
theorem paired_imp {α β : Type} {R S : α → β → Prop} (h : ∀ a b, R a b → S a b) : ∀ {as : List α} {bs : List β}, Paired R as bs → Paired S as bs
  | _, _, .nil => .nil
  | _, _, .cons r t => .cons (h _ _ r) (paired_imp h t)
theorem paired_snoc {α β : Type} {R : α → β → Prop} {a : α} {b : β} (r : R a b) : ∀ {as : List α} {bs : List β}, Paired R as bs → Paired R (as ++ [a]) (bs ++ [b])
  | _, _, .nil => .cons r .nil
  | _, _, .cons q t => .cons q (paired_snoc r t)
def spTurned : Sp := fun vs H Q _ => ∃ (c : Addr) (kvs : List (Key × V)), vs = [.ref c] ∧ H c = some (.dK kvs) ∧ RowOk kvs ∧ ∀ d G, Same H G → G d = some (.dK kvs.reverse) → Q (.ref d) G
theorem scTurned : FnScope ["cells", "name"] ["cells"] (defScope sTurned) := ⟨rfl, rfl, rfl, by decide +kernel, rfl, by decide +kernel, by decide +kernel⟩
theorem ok_turned {f : Addr} {fd : FuncData} (F : FnP K "_law_turned" sTurned f fd) (hd : mg "dict" = none) (hl : mg "list" = none) : FnOk P w K mg base CX0 1 f fd ["cells"] spTurned := by
  refine F.ok scTurned (fun vs H Q E h => ?_) (fun cdv A outer s H vs Q E hr h => ?_)
  · obtain ⟨c, kvs, rfl, _⟩ := h
    rfl
  · obtain ⟨c, kvs, rfl, hc, rk, k⟩ := h
    have nd := scTurned.nd
    have hu := hu_of hr
    have h9 : sizeLine = 16777216 := by decide
    refine ⟨_, PSs.nox (pss_one (ps_ret (pe_callTy (call_dictP rfl) (by rfl) hd (by decide +kernel) (pa_cons (pe_lc (own := [("name", 1)]) (g := gName 1) (tt := tYes) rfl nd (pi_list (pe_revL (Lk.pe_listKeys rfl (pv 0) (by rfl) hl (by decide +kernel)))) (blkOk_by (N := ["cells", "name"]) (sc := defScope sTurned) (by decide +kernel))
      (fun _ _ _ _ _ => pg_name (i := 1) nd rfl (Or.inl rfl)) (fun _ _ _ _ _ => pts_nil) (fun _ _ _ _ _ => pe_tup (pa_cons (pv 1) (pa_cons (pe_dget (by exact hu) (pv 0) (pv 1) (fun _ _ => rfl)) pa_nil)))) pa_nil)))), ?_⟩
    refine ⟨_, rfl, c, kvs, rfl, hc, fun p np => ⟨p, _, rfl, SqL.of upd_same, fun r nr => ⟨r, rfl, ⟨_, SqL.of upd_same⟩, fun D nD => ?_⟩⟩⟩
    have s1 := (Lw.Same.new (o := .lst (kvs.map fun kv => kV kv.1)) (Same.refl H) np).trans (Lw.Same.new (o := .lst (kvs.map fun kv => kV kv.1).reverse) (Same.refl _) nr)
    have hr1 : (upd (upd H p (.lst (kvs.map fun kv => kV kv.1))) r (.lst (kvs.map fun kv => kV kv.1).reverse)) r = some (.lst (kvs.reverse.map fun kv => kV kv.1)) := by rw [upd_same, List.map_reverse]
    generalize upd (upd H p (.lst (kvs.map fun kv => kV kv.1))) r (.lst (kvs.map fun kv => kV kv.1).reverse) = G1 at s1 hr1 nD ⊢
    have rv := rk.rev
    have kl : kvs.reverse.length ≤ 60 := rv.2.2
    refine lc_list (xs := kvs.reverse.map fun kv => kV kv.1) (fun j H' => ∃ ps : List Addr, H' D = some (.lst (ps.map V.ref)) ∧ Paired (fun (q : Addr) (kv : Key × V) => H' q = some (.tup [kV kv.1, kv.2])) ps (kvs.reverse.take j) ∧ Same G1 H') ⟨[], upd_same, .nil, Lw.Same.new (Same.refl _) nD⟩ (fun j H' _ ⟨_, _, _, s'⟩ => SqL.of (s' _ _ hr1)) ?_ ?_
    · rintro j x H' hx ⟨ps, hD, hP, s'⟩
      rw [List.getElem?_map] at hx
      obtain ⟨kv, hkv, rfl⟩ := Option.map_eq_some_iff.mp hx
      have hm := List.mem_of_getElem? hkv
      have ht : kvs.reverse.take (j + 1) = kvs.reverse.take j ++ [kv] := by rw [List.take_add_one, hkv]; rfl
      have hv : valV kvs kv.1 = some kv.2 := valV_mem rk.nodup kv (List.mem_reverse.mp hm)
      have hc' := s' _ _ (s1 _ _ hc)
      have pl := paired_len hP
      have pl2 : (kvs.reverse.take j).length ≤ kvs.reverse.length := by rw [List.length_take]; omega
      refine ⟨rfl, _, rfl, _, rfl, _, rfl, c, _, rfl, .inl ⟨kvs, kv.1, .inl hc', rfl, hv.symm⟩, (by show 2 ≤ sizeLine; decide), fun t nt => ?_⟩
      have st : Same H' (upd H' t (.tup [kV kv.1, kv.2])) := Lw.Same.new (Same.refl _) nt
      refine ⟨ps.map V.ref, st _ _ hD, by rw [List.length_map]; omega, ps ++ [t], by rw [upd_same, List.map_append]; rfl, ?_, same_at nD (s'.trans st)⟩
      rw [ht]
      have nDt : t ≠ D := fun e => by subst e; rw [hD] at nt; cases nt
      refine paired_snoc (by rw [upd_ne nDt]; exact upd_same) (paired_imp (fun q kv' h => ?_) hP)
      have nq : q ≠ D := fun e => by subst e; rw [hD] at h; cases h
      rw [upd_ne nq]
      exact st _ _ h
    · rintro H' ⟨ps, hD, hP, s'⟩
      rw [List.length_map, List.take_length] at hP
      refine ⟨D, ps, kvs.reverse, rfl, SqL.of hD, paired_imp (fun q kv h => SqT.of h) hP, fun d nd' => ?_⟩
      have em : mergeK [] kvs.reverse = kvs.reverse := by
        have := mergeK_new kvs.reverse [] (by rw [List.nil_append]; exact rv.nodup)
        rw [this, List.nil_append]
      exact k d _ (s1.trans (s'.trans (Lw.Same.new (Same.refl _) nd'))) (by rw [upd_same, em])
end
end Lw

set_option Elab.async false
set_option linter.all false
set_option maxRecDepth 100000
set_option maxHeartbeats 4000000
namespace Lw
open PySem PySem.Spec PyProof.Rows L2

abbrev sLaw : Stmt := top 15
section
variable {P : Program} {w : World} {K : PySem.W.Frag} {mg : Str → Option Value} {base : Heap}
theorem Msg.keepL {CP CC CT l : Addr} {N H G : Hp} {m : Addr} {z : Str} {key : Int} {kvs : List (Key × V)} {xs : List V} (hl : H l = some (.lst xs)) (k : Keep l H G) (h : Msg CP CC CT N H m z key kvs) : Msg CP CC CT N G m z key kvs := by
  obtain ⟨n, h | ⟨hz, dx, d, nd, h1, h2⟩⟩ := h
  · obtain ⟨e1, e2, dx, h1⟩ := h
    exact ⟨n, .inl ⟨e1, e2, dx, k _ _ (fun e => by subst e; rw [hl] at h1; cases h1) h1⟩⟩
  · exact ⟨n, .inr ⟨hz, dx, d, nd, k _ _ (fun e => by subst e; rw [hl] at h1; cases h1) h1, k _ _ (fun e => by subst e; rw [hl] at h2; cases h2) h2⟩⟩

/-- x, y, z = ..: a tuple is made and taken apart -/
theorem sq_asg3 {te : TE} {u : TS} {D : Ends} {σ : L2.St} {H : Hp} {i j l : Nat} {K : PySem.W.Frag} (P : V → V → V → Hp → Prop) (h : ∀ Q : VK, (∀ t x y z H', H' t = some (.tup [x, y, z]) → P x y z H' → Q (.ref t) H') → te σ H Q)
    (k : ∀ x y z H', P x y z H' → u D (((σ.set i (some x)).set j (some y)).set l (some z)) H') : tSeq (tAsg te (gTup K 3 (gCons (gName i) (gCons (gName j) (gCons (gName l) gNil))))) u D σ H :=
  h _ fun t x y z H' ht p => ⟨t, _, rfl, SqT.of ht, rfl, x, _, rfl, y, _, rfl, z, _, rfl, rfl, k x y z H' p⟩
theorem sq_par3 {ta : TA} {u : TS} {D : Ends} {σ : L2.St} {H : Hp} {i j l : Nat} (P : V → V → V → Hp → Prop) (h : ∀ Q : List V → Hp → Prop, (∀ x y z H', P x y z H' → Q [x, y, z] H') → ta σ H Q) (k : ∀ x y z H', P x y z H' → u D (((σ.set i (some x)).set j (some y)).set l (some z)) H') : tSeq (tPar3 i j l ta) u D σ H :=
  h _ fun x y z H' p => ⟨x, y, z, rfl, k x y z H' p⟩
theorem Msg.nilT {CP CC CT : Addr} {N H : Hp} {m : Addr} {z : Str} {key : Int} {kvs : List (Key × V)} (h : Msg CP CC CT N H m z key kvs) (e : z = "take") : kvs = [] := by
  obtain ⟨n, h | ⟨hz, _⟩⟩ := h
  · exact h.2.1
  · subst e
    rcases hz with hz | hz <;> exact absurd hz (by decide)
structure Dt where
  t : Addr
  c : Addr
  m : Addr
  z : Str
  key : Int
  kvs : List (Key × V)
def DtOk (CP CC CT : Addr) (H : Hp) (d : Dt) : Prop := ∃ N, H d.t = some (.tup [.str d.z, .int d.key, .ref d.c]) ∧ H d.c = some (.dK d.kvs) ∧ RowOk d.kvs ∧ Msg CP CC CT N H d.m d.z d.key d.kvs
theorem DtOk.same {CP CC CT : Addr} {H G : Hp} {d : Dt} (s : Same H G) (h : DtOk CP CC CT H d) : DtOk CP CC CT G d := by
  obtain ⟨N, h1, h2, h3, h4⟩ := h
  exact ⟨N, s _ _ h1, s _ _ h2, h3, h4.same s⟩
theorem DtOk.keep {CP CC CT l : Addr} {H G : Hp} {d : Dt} {xs : List V} (hl : H l = some (.lst xs)) (k : Keep l H G) (h : DtOk CP CC CT H d) : DtOk CP CC CT G d := by
  obtain ⟨N, h1, h2, h3, h4⟩ := h
  exact ⟨N, k _ _ (fun e => by subst e; rw [hl] at h1; cases h1) h1, k _ _ (fun e => by subst e; rw [hl] at h2; cases h2) h2, h3, h4.keepL hl k⟩
theorem keep_upd1 {l : Addr} {H : Hp} {o : HO} : Keep l H (upd H l o) := fun b u n h => by
  rw [upd_ne n]
  exact h
structure Cals (P : Program) (w : World) (K : PySem.W.Frag) (mg : Str → Option Value) (base : Heap) (CP CC CT : Addr) : Prop where
  src : Cal P w K mg base CX0 "_law_source" 1 ["script", "at"] (spSource K)
  draw : Cal P w K mg base CX0 "_law_draw" 1 ["source", "many"] spDrawW
  pick : Cal P w K mg base CX0 "_law_pick" 2 ["source", "some"] (spOf K)
  words : Cal P w K mg base CX0 "_law_words" 3 ["source", "many", "taken"] (spWords K)
  num : Cal P w K mg base CX0 "_law_number" 2 ["source", "limit"] spNumL
  msg : Cal P w K mg base CX0 "_law_message" 3 ["deed", "key", "cells"] (spMsg CP CC CT)
  turned : Cal P w K mg base CX0 "_law_turned" 1 ["cells"] spTurned
  range : mg "range" = none
  max : mg "max" = none
  min : mg "min" = none
  len : mg "len" = none
  enum : mg "enumerate" = none
def spLaw (K : PySem.W.Frag) : Sp := fun vs H Q _ => ∃ (a : Addr) (ns : List Int), vs = [.ref a] ∧ SqL K H a (ns.map V.int) ∧ ns.length ≤ 63 ∧ ∀ H', Q (.bl true) H'
abbrev nLaw : List Str := ["script", "source", "names", "low", "base", "parts", "messages", "at", "deed", "key", "cells", "name", "kind", "others", "k", "part", "j", "other", "due", "value"]
theorem scLaw : FnScope nLaw ["script"] (defScope sLaw) := ⟨rfl, rfl, rfl, by decide +kernel, rfl, by decide +kernel, by decide +kernel⟩
theorem ok_law {CP CC CT f : Addr} {fd : FuncData} (F : FnP K "law" sLaw f fd) (c : Cals P w K mg base CP CC CT) (M : EqF P w K mg base CP CC CT) : FnOk P w K mg base CX0 4 f fd ["script"] (spLaw K) := by
  refine F.ok scLaw (fun vs H Q E h => ?_) (fun cdv A outer s0 H vs Q E hr h => ?_)
  · obtain ⟨a, ns, rfl, _⟩ := h
    rfl
  · obtain ⟨a, ns, rfl, hS, hlen, k⟩ := h
    have nd := scLaw.nd
    have h1 : Room 1 _ := hr.mono (by decide)
    have h2 : Room 2 _ := hr.mono (by decide)
    have h3 : Room 3 _ := hr.mono (by decide)
    have hu := hu_of hr
    refine ⟨_, PSs.nox (pss_cons (ps_set (i := 1) nd rfl (Or.inl rfl) (pe_cal c.src h1 (pa_cons (pv 0) (pa_cons pe_int pa_nil))))
      (pss_cons (ps_par (i := 2) (j := 3) (by rfl) nd rfl rfl (by decide) rfl rfl (pa_cons (pe_cal c.words h3 (pa_cons (pv 1) (pa_cons pe_int (pa_cons (pe_lst (pa_cons pe_str pa_nil)) pa_nil)))) (pa_cons (pe_cal c.num h2 (pa_cons (pv 1) (pa_cons (pe_op op_pow pe_int pe_int) pa_nil))) pa_nil)) (by rfl))
      (pss_cons (ps_par3 (i := 4) (j := 5) (l := 6) (by rfl) nd rfl rfl rfl (by decide) (by decide) (by decide) rfl rfl rfl (pa_cons (pe_cal c.num h2 (pa_cons (pv 1) (pa_cons (pe_op op_pow pe_int pe_int) pa_nil))) (pa_cons (pe_lst pa_nil) (pa_cons (pe_lst pa_nil) pa_nil))) (by rfl))
      (pss_cons (ps_for PassesOwn.never rfl (pi_range1 rfl c.range (pa_cons (pe_callB (call_max2 rfl) (by rfl) c.max (by decide +kernel) (pa_cons pe_int (pa_cons (pe_callB (call_min2 rfl) (by rfl) c.min (by decide +kernel) (pa_cons pe_int (pa_cons (pe_callB call_len_seq (by rfl) c.len PySem.boot_len (pa_cons (pv 0) pa_nil)) pa_nil))) pa_nil))) pa_nil)) (pg_name (i := 7) nd rfl (Or.inl rfl))
        (pss_cons (ps_set (i := 1) nd rfl (Or.inl rfl) (pe_ifExp (pt_cmpR op_gt (pv 7) pe_int (nomark _)) (pe_cal c.src h1 (pa_cons (pv 0) (pa_cons (pv 7) pa_nil))) (pv 1)))
        (pss_cons (ps_par (i := 8) (j := 9) (by rfl) nd rfl rfl (by decide) rfl rfl (pa_cons (pe_cal c.pick h2 (pa_cons (pv 1) (pa_cons (pe_lst (pa_cons pe_str (pa_cons pe_str (pa_cons pe_str pa_nil)))) pa_nil))) (pa_cons (pe_op op_add (pv 4) (pe_cal c.draw h1 (pa_cons (pv 1) (pa_cons pe_int pa_nil)))) pa_nil)) (by rfl))
        (pss_cons (ps_set (i := 10) nd rfl (Or.inl rfl) pe_dnewK)
        (pss_cons (ps_for PassesOwn.never rfl (pi_list (pv 2)) (pg_name (i := 11) nd rfl (Or.inl rfl))
          (pss_cons (ps_set (i := 12) nd rfl (Or.inl rfl) (pe_cal c.draw h1 (pa_cons (pv 1) (pa_cons pe_int pa_nil))))
          (pss_one (ps_if (pt_cmpR op_gt (pv 12) pe_int (nomark _)) (pss_one (ps_dput hu (pv 10) (pv 11) (pe_ix ix_list (pe_lst (pa_cons pe_non (pa_cons (pv 3) (pa_cons (pe_op op_add (pv 3) pe_int) pa_nil)))) (pe_op op_sub (pv 12) pe_int) (fun _ _ => rfl)) rfl)) pss_nil))))
        (pss_cons (ps_set (i := 10) nd rfl (Or.inl rfl) (pe_ifExp (pt_cmpR op_eq (pv 8) pe_str (nomark _)) pe_dnewK (pv 10)))
        (pss_cons (ps_expr (pe_bm PySem.F.plainAttrs_list PySem.F.slot_list_append PySem.F.type_list_append mt_append (pv 5) (pa_cons (pe_tup (pa_cons (pv 8) (pa_cons (pv 9) (pa_cons (pv 10) pa_nil)))) pa_nil)))
        (pss_one (ps_expr (pe_bm PySem.F.plainAttrs_list PySem.F.slot_list_append PySem.F.type_list_append mt_append (pv 6) (pa_cons (pe_cal c.msg h3 (pa_cons (pv 8) (pa_cons (pv 9) (pa_cons (pv 10) pa_nil)))) pa_nil)))))))))))
      (pss_cons (ps_setLc (i := 13) (own := [("deed", 8), ("key", 9), ("cells", 10)]) (g := gTup K 3 (gCons (gName 8) (gCons (gName 9) (gCons (gName 10) gNil)))) (tt := tYes) rfl nd rfl rfl (sw_true rfl rfl rfl (by decide +kernel)) (pi_list (pv 5)) (blkOk_by (N := nLaw) (sc := defScope sLaw) (by decide +kernel))
          (fun _ _ _ _ _ => pg_tup (by rfl) (pgs_cons (pg_name (i := 8) nd rfl (Or.inl rfl)) (pgs_cons (pg_name (i := 9) nd rfl (Or.inl rfl)) (pgs_cons (pg_name (i := 10) nd rfl (Or.inl rfl)) pgs_nil)))) (fun _ _ _ _ _ => pts_nil) (fun _ _ _ _ _ => pe_cal c.msg h3 (pa_cons (pv 8) (pa_cons (pv 9) (pa_cons (pe_cal c.turned h1 (pa_cons (pv 10) pa_nil)) pa_nil)))))
      (pss_cons (ps_for PassesOwn.never rfl (pi_enum (by rfl) c.enum (pa_cons (pv 5) pa_nil)) (pg_tup (by rfl) (pgs_cons (pg_name (i := 14) nd rfl (Or.inl rfl)) (pgs_cons (pg_name (i := 15) nd rfl (Or.inl rfl)) pgs_nil)))
        (pss_cons (ps_for PassesOwn.never rfl (pi_enum (by rfl) c.enum (pa_cons (pv 5) pa_nil)) (pg_tup (by rfl) (pgs_cons (pg_name (i := 16) nd rfl (Or.inl rfl)) (pgs_cons (pg_name (i := 17) nd rfl (Or.inl rfl)) pgs_nil)))
          (pss_cons (ps_set (i := 18) nd rfl (Or.inl rfl) (pe_cmpR (op_eq_t3 hr.units) (pv 15) (pv 17) (nomark _)))
          (pss_cons (ps_if (PW.pt (pw_or (pt_cmpR op_ne (pe_cmpR (op_eqMs M h1) (pe_ix ix_list (pv 6) (pv 14) (fun _ _ => rfl)) (pe_ix ix_list (pv 13) (pv 16) (fun _ _ => rfl)) (nomark _)) (pv 18) (nomark _)) (pw_or1 (pt_cmpR op_eq (pe_cmpR (op_neMs M h2) (pe_ix ix_list (pv 6) (pv 14) (fun _ _ => rfl)) (pe_ix ix_list (pv 13) (pv 16) (fun _ _ => rfl)) (nomark _)) (pv 18) (nomark _))))) (pss_one (ps_ret pe_bl)) pss_nil)
          (pss_one (ps_if (pt_cmpR op_ne (pe_cmpR (op_eqMs M h1) (pe_ix ix_list (pv 6) (pv 14) (fun _ _ => rfl)) (pe_ix ix_list (pv 6) (pv 16) (fun _ _ => rfl)) (nomark _)) (pv 18) (nomark _)) (pss_one (ps_ret pe_bl)) pss_nil)))))
        (pss_cons (ps_asg (pv 15) (pg_tup (by rfl) (pgs_cons (pg_name (i := 8) nd rfl (Or.inl rfl)) (pgs_cons (pg_name (i := 9) nd rfl (Or.inl rfl)) (pgs_cons (pg_name (i := 10) nd rfl (Or.inl rfl)) pgs_nil)))))
        (pss_one (ps_for PassesOwn.never rfl (pi_list (pe_lst (pa_cons pe_non (pa_cons pe_int (pa_cons (pv 9) (pa_cons (pv 8) (pa_cons (pv 10) (pa_cons (pe_tup (pa_cons (pv 9) (pa_cons (pv 10) pa_nil))) (pa_cons (pe_lst (pa_cons (pv 8) (pa_cons (pv 9) (pa_cons (pv 10) pa_nil)))) (pa_cons pe_bl pa_nil)))))))))) (pg_name (i := 19) nd rfl (Or.inl rfl))
          (pss_one (ps_if (PW.pt (pw_or (pt_cmpR (op_eqMs M h1) (pe_ix ix_list (pv 6) (pv 14) (fun _ _ => rfl)) (pv 19) (nomark _)) (pw_or1 (pt_not (pt_cmpR (op_neMs M h2) (pe_ix ix_list (pv 6) (pv 14) (fun _ _ => rfl)) (pv 19) (nomark _)))))) (pss_one (ps_ret pe_bl)) pss_nil)))))))
      (pss_one (ps_ret pe_bl)))))))), ?_⟩
    have h9 : sizeLine = 16777216 := by decide
    have hb : ∀ L : Int, 0 ≤ L → 2 ≤ (if (if L < 6 then L else 6) > 2 then (if L < 6 then L else 6) else 2) ∧ (if (if L < 6 then L else 6) > 2 then (if L < 6 then L else 6) else 2) ≤ 6 := fun L h => by split <;> split <;> omega
    have hb2 := hb (((ns.map V.int).length : Nat) : Int) (by omega)
    refine sq_set (fun x G1 => ∃ p, x = .ref p ∧ H p = none ∧ Same H G1 ∧ Src G1 p 0) (fun Q q => ⟨_, rfl, a, ns, 0, rfl, hS, by omega, by decide, by decide, fun p G1 np s1 hs => q _ _ ⟨p, rfl, np, s1, hs⟩⟩) ?_
    rintro _ G1 ⟨p0, rfl, np0, s1, S1⟩
    refine sq_par (fun x y G2 => ∃ wl ws low, x = .ref wl ∧ y = .int low ∧ Keep p0 G1 G2 ∧ Src G2 p0 90 ∧ wl ≠ p0 ∧ G2 wl = some (.lst (ws.map V.str)) ∧ ws.length ≤ 8 ∧ GoodWs ws ["key"]) (fun Q q => ?_) ?_
    · refine ⟨_, rfl, (by show 1 ≤ sizeLine; decide), fun L nL => ?_⟩
      refine ⟨p0, L, _, 2, ["key"], rfl, S1.new nL, by decide, S1.ne nL, upd_same, by decide, ⟨by decide, by decide⟩, fun wl G3 ws nw k3 s3 hw lw gw => ?_⟩
      have lw2 : ws.length = 2 := lw
      have wp : wl ≠ p0 := src_ne_strs s3 hw
      exact ⟨_, rfl, _, _, rfl, rfl, ⟨by decide, by decide, by decide⟩, p0, _, _, rfl, s3, by decide, by decide, by decide +kernel, fun G4 low k4 s4 => q _ _ _ ⟨wl, ws, low, rfl, rfl, (((Keep.refl G1).new nL).trans k3).trans k4, s4.mono (by decide), wp, k4 _ _ wp hw, by omega, gw⟩⟩
    rintro _ _ G2 ⟨wl, ws, low, rfl, rfl, k2, S2, wp, hw, lw, gw⟩
    have sG2 : Same H G2 := fun b o h => k2 _ _ (ne_of_none h np0) (s1 _ _ h)
    refine sq_par3 (fun x y z G3 => ∃ (bs : Int) (lp lm : Addr), x = .int bs ∧ y = .ref lp ∧ z = .ref lm ∧ Keep p0 G2 G3 ∧ Src G3 p0 95 ∧ lp ≠ p0 ∧ lm ≠ p0 ∧ lp ≠ lm ∧ lp ≠ wl ∧ lm ≠ wl ∧ H lp = none ∧ H lm = none ∧ G3 lp = some (.lst []) ∧ G3 lm = some (.lst [])) (fun Q q => ?_) ?_
    · refine ⟨_, rfl, _, _, rfl, rfl, ⟨by decide, by decide, by decide⟩, p0, _, _, rfl, S2, by decide, by decide, by decide +kernel, fun G3 bs k3 s3 => ?_⟩
      refine ⟨(by show 0 ≤ sizeLine; decide), fun lp n1 => ⟨(by show 0 ≤ sizeLine; decide), fun lm n2 => ?_⟩⟩
      have hw3 := k3 _ _ wp hw
      have e1 : lp ≠ lm := fun e => by subst e; rw [upd_same] at n2; cases n2
      have n2' : G3 lm = none := by rw [upd_ne e1.symm] at n2; exact n2
      have sH3 : Same H G3 := fun b o h => k3 _ _ (ne_of_none h np0) (sG2 _ _ h)
      exact q _ _ _ _ ⟨bs, lp, lm, rfl, rfl, rfl, (k3.trans ((Keep.refl G3).new n1)).trans ((Keep.refl _).new n2), ((s3.new n1).new n2).mono (by decide), s3.ne n1, s3.ne n2', e1, (fun e => by subst e; rw [hw3] at n1; cases n1), (fun e => by subst e; rw [hw3] at n2'; cases n2'), none_of_same sH3 n1, none_of_same sH3 n2', by rw [upd_ne e1]; exact upd_same, upd_same⟩
    rintro _ _ _ G3 ⟨bs, lp, lm, rfl, rfl, rfl, k3, S3, lpp, lmp, lpm, lpw, lmw, nlp, nlm, hp3, hm3⟩
    have hw3 := k3 _ _ wp hw
    have sG3 : Same H G3 := fun b o h => k3 _ _ (ne_of_none h np0) (sG2 _ _ h)
    refine ⟨_, rfl, a, _, rfl, .inl (sG3.seq hS), _, _, rfl, _, _, rfl, _, rfl, by omega, by omega, ?_⟩
    refine for_range (lo := 0) (fun i σ G => ∃ (p : Addr) (n : Nat) (v7 v8 v9 v10 v11 v12 v13 v14 v15 v16 v17 v18 v19 : Option V) (ds : List Dt), σ = [some (.ref a), some (.ref p), some (.ref wl), some (.int low), some (.int bs), some (.ref lp), some (.ref lm), v7, v8, v9, v10, v11, v12, v13, v14, v15, v16, v17, v18, v19] ∧ Same H G ∧ G wl = some (.lst (ws.map V.str)) ∧ Src G p n ∧ n ≤ 200 + 100 * i ∧ H p = none ∧
        G lp = some (.lst (ds.map fun d => V.ref d.t)) ∧ G lm = some (.lst (ds.map fun d => V.ref d.m)) ∧ ds.length = i ∧ (∀ d ∈ ds, DtOk CP CC CT G d) ∧ lp ≠ p ∧ lm ≠ p)
      ⟨p0, _, _, _, _, _, _, _, _, _, _, _, _, _, _, [], rfl, sG3, hw3, S3, by omega, np0, hp3, hm3, rfl, fun _ h => (List.not_mem_nil h).elim, lpp, lmp⟩ ?_ ?_
    · rintro i σ G hi ⟨p, n, v7, v8, v9, v10, v11, v12, v13, v14, v15, v16, v17, v18, v19, ds, rfl, sG, gw0, SG, hn, np, glp, glm, hdl, hds, lpp, lmp⟩
      have hi6 : i < 6 := by omega
      refine g_name ?_
      refine sq_set (fun x G1 => ∃ p n, x = .ref p ∧ Same G G1 ∧ Src G1 p n ∧ n ≤ 200 + 100 * i ∧ H p = none ∧ lp ≠ p ∧ lm ≠ p) (fun Q q => ?_) ?_
      · refine ⟨_, rfl, _, _, rfl, rfl, _, rfl, ?_⟩
        refine bool_ite (fun _ => ?_) (fun _ => ?_)
        · exact ⟨_, rfl, _, rfl, a, ns, _, rfl, sG.seq hS, by omega, by omega, by omega, fun p2 G1 np2 s2 S2' => q _ _ ⟨p2, 0, rfl, s2, S2', by omega, none_of_same sG np2, ne_of_none glp np2, ne_of_none glm np2⟩⟩
        · exact ⟨_, rfl, q _ _ ⟨p, n, rfl, Same.refl G, SG, hn, np, lpp, lmp⟩⟩
      clear SG hn np lpp lmp
      rintro _ Ga ⟨p, n, rfl, sa, SG, hn, np, lpp, lmp⟩
      have hwa := sa _ _ gw0
      have glpa := sa _ _ glp
      have glma := sa _ _ glm
      have hdsa : ∀ d ∈ ds, DtOk CP CC CT Ga d := fun d h => (hds d h).same sa
      have sGa : Same H Ga := fun b o h => sa _ _ (sG _ _ h)
      refine sq_par (fun x y G1 => ∃ (z : Str) (key : Int), x = .str z ∧ y = .int key ∧ z ∈ deeds ∧ Keep p Ga G1 ∧ Src G1 p (n + 2)) (fun Q q => ?_) ?_
      · refine ⟨_, rfl, (by show 3 ≤ sizeLine; decide), fun L nL => ⟨p, L, n, _, rfl, SG.new nL, by omega, SG.ne nL, SqL.of upd_same, (fun z => by cases z), (by show 3 ≤ 100000; decide), fun Gb x kb sb hx => ?_⟩⟩
        have hz : ∃ z, x = .str z ∧ z ∈ deeds := by
          rcases List.mem_cons.mp hx with rfl | hx
          · exact ⟨_, rfl, by decide⟩
          rcases List.mem_cons.mp hx with rfl | hx
          · exact ⟨_, rfl, by decide⟩
          rcases List.mem_cons.mp hx with rfl | hx
          · exact ⟨_, rfl, by decide⟩
          cases hx
        obtain ⟨z, rfl, hz⟩ := hz
        exact ⟨_, rfl, _, rfl, p, _, _, rfl, sb, by omega, by decide, by decide, fun Gc j kc sc _ _ => ⟨_, _, rfl, rfl, q _ _ _ ⟨z, bs + j, rfl, rfl, hz, ((Keep.refl Ga).new nL).trans (kb.trans kc), sc⟩⟩⟩
      rintro _ _ Gb ⟨z, key, rfl, rfl, hz, kb, Sb⟩
      refine sq_set (fun x G1 => ∃ c0, x = .ref c0 ∧ Gb c0 = none ∧ G1 = upd Gb c0 (.dK [])) (fun Q q => fun d nd => q _ _ ⟨d, rfl, nd, rfl⟩) ?_
      rintro _ _ ⟨c0, rfl, nc, rfl⟩
      have wpa : wl ≠ p := src_ne_strs SG hwa
      have hwb := kb _ _ wpa hwa
      have cp : c0 ≠ p := Sb.ne nc
      have cw : wl ≠ c0 := ne_of_none hwb nc
      have hw1 : (upd Gb c0 (.dK [])) wl = some (.lst (ws.map V.str)) := by rw [upd_ne cw]; exact hwb
      refine ⟨_, rfl, wl, rfl, ⟨_, SqL.of hw1⟩, ?_⟩
      refine for_list (xs := ws.map V.str) (fun j σ G => ∃ (v11 v12 : Option V) (kvs : List (Key × V)), σ = [some (.ref a), some (.ref p), some (.ref wl), some (.int low), some (.int bs), some (.ref lp), some (.ref lm), some (.int (0 + (i : Int))), some (.str z), some (.int key), some (.ref c0), v11, v12, v13, v14, v15, v16, v17, v18, v19] ∧ Keep p Gb G ∧ Src G p (n + 2 + j) ∧ G wl = some (.lst (ws.map V.str)) ∧ G c0 = some (.dK kvs) ∧ RowOk kvs ∧ kvs.length ≤ j ∧ ∀ key ∈ kvs.map (·.1), ∃ y ∈ ws.take j, key = Sum.inr y)
        ⟨_, _, [], rfl, (Keep.refl Gb).new nc, Sb.new nc, hw1, upd_same, RowOk.nil, Nat.le_refl _, fun _ h => (List.not_mem_nil h).elim⟩ (fun j σ G _ ⟨_, _, _, _, _, _, h, _⟩ => SqL.of h) ?_ ?_
      · rintro j x σ G1 hx ⟨v11, v12, kvs, rfl, kG, sG1, gl, gd, rk, lk, mk⟩
        rw [List.getElem?_map] at hx
        obtain ⟨y, hy, rfl⟩ := Option.map_eq_some_iff.mp hx
        have hj : j < ws.length := (List.getElem?_eq_some_iff.mp hy).1
        have hyw : y ∈ ws := List.mem_of_getElem? hy
        have ht : ws.take (j + 1) = ws.take j ++ [y] := by rw [List.take_add_one, hy]; rfl
        have nz : y ∉ ws.take j := fun m => by
          have nw2 : (ws.take j ++ ws.drop j).Nodup := by rw [List.take_append_drop]; exact gw.1
          have hd := List.drop_eq_getElem_cons hj
          rw [(List.getElem?_eq_some_iff.mp hy).2] at hd
          exact (List.nodup_append.mp nw2).2.2 y m y (by rw [hd]; exact List.mem_cons_self) rfl
        have nk : (Sum.inr y : Key) ∉ kvs.map (·.1) := fun m => by
          obtain ⟨u, hu', e⟩ := mk _ m
          cases e
          exact nz hu'
        have upk : ∀ key ∈ kvs.map (·.1), ∃ u ∈ ws.take (j + 1), key = Sum.inr u := fun key m => by
          obtain ⟨u, hu', e⟩ := mk key m
          exact ⟨u, by rw [ht]; exact List.mem_append_left _ hu', e⟩
        refine g_name ?_
        refine sq_set (fun x G2 => ∃ kind : Int, x = .int kind ∧ 0 ≤ kind ∧ kind < 4 ∧ Keep p G1 G2 ∧ Src G2 p (n + 2 + j + 1)) (fun Q q => ⟨_, rfl, p, _, _, rfl, sG1, by omega, by decide, by decide, fun G2 kd k1 s1 a0 a1 => q _ _ ⟨kd, rfl, a0, a1, k1, s1⟩⟩) ?_
        rintro _ G2 ⟨kind, rfl, kd0, kd1, k2', s2'⟩
        have gl2 := k2' _ _ wpa gl
        have gd2 := k2' _ _ cp gd
        refine ⟨_, rfl, _, _, rfl, rfl, _, rfl, ?_⟩
        refine bool_ite (fun hk => ?_) (fun _ => ?_)
        · refine ⟨_, rfl, _, rfl, _, _, rfl, rfl, (by show 3 ≤ sizeLine; decide), fun L nL => ?_⟩
          obtain ⟨x, hx', hm⟩ := atI_get (xs := [V.non, .int low, .int (low + 1)]) (i := kind - 1) (by omega) (by show kind - 1 < 3; omega)
          have hN : IntN x := by
            rcases List.mem_cons.mp hm with rfl | hm
            · exact .inr rfl
            rcases List.mem_cons.mp hm with rfl | hm
            · exact .inl ⟨_, rfl⟩
            rcases List.mem_cons.mp hm with rfl | hm
            · exact .inl ⟨_, rfl⟩
            cases hm
          have sL : Same G2 (upd G2 L (.lst [V.non, .int low, .int (low + 1)])) := Lw.Same.new (Same.refl _) nL
          refine ⟨_, rfl, _, _, rfl, rfl, L, _, _, x, rfl, rfl, SqL.of upd_same, hx', _, rfl, _, rfl, c0, _, rfl, DPut.k (k := .inr y) (sL _ _ gd2) (by omega), ?_⟩
          have s3 := s2'.new (o := .lst [V.non, .int low, .int (low + 1)]) nL
          have k3' := k2'.trans ((Keep.refl G2).new (o := .lst [V.non, .int low, .int (low + 1)]) nL)
          refine ⟨_, _, kvs ++ [(.inr y, x)], rfl, keep_at nc (kG.trans k3'), ?_, by rw [upd_ne cw]; exact sL _ _ gl2, by rw [upd_same, putK_new nk], rk.snoc nk (gw.2 y hyw).1 hN (by omega), by rw [List.length_append]; show kvs.length + 1 ≤ j + 1; omega, fun key m => ?_⟩
          · obtain ⟨x1, x2, x3, y1, y2⟩ := s3.mono (show n + 2 + j + 1 ≤ n + 2 + (j + 1) by omega)
            exact ⟨x1, x2, x3, by rw [upd_ne cp.symm]; exact y1, y2⟩
          · rw [List.map_append] at m
            rcases List.mem_append.mp m with m | m
            · exact upk key m
            · exact ⟨y, by rw [ht]; simp, by simpa using m⟩
        · exact ⟨_, _, kvs, rfl, kG.trans k2', s2'.mono (by omega), gl2, gd2, rk, by omega, upk⟩
      rintro σ Gc ⟨v11, v12, kvs, rfl, kc, Sc, gwc, gdc, rkc, lkc, _⟩
      have nlen : (ws.map V.str).length ≤ 8 := by rw [List.length_map]; exact lw
      dsimp only
      refine sq_set (fun x G1 => ∃ c1 kv1, x = .ref c1 ∧ Same Gc G1 ∧ G1 c1 = some (.dK kv1) ∧ RowOk kv1 ∧ (z = "take" → kv1 = [])) (fun Q q => ?_) ?_
      · refine ⟨_, rfl, rfl, _, rfl, str_it (fun e => ?_) (fun e => ?_)⟩
        · intro d nd'
          exact q _ _ ⟨d, [], rfl, Lw.Same.new (Same.refl _) nd', upd_same, RowOk.nil, fun _ => rfl⟩
        · exact ⟨_, rfl, q _ _ ⟨c0, kvs, rfl, Same.refl _, gdc, rkc, fun h => absurd h e⟩⟩
      rintro _ Gd ⟨c1, kv1, rfl, sd, hc1, rk1, ht1⟩
      have kad : Keep p Ga Gd := fun b o nb h => sd _ _ (kc b o nb (kb b o nb h))
      have glpd := kad _ _ lpp glpa
      have glmd := kad _ _ lmp glma
      have Sd : Src Gd p (n + 2 + ws.length) := by
        have := Sc.same sd
        rw [List.length_map] at this
        exact this
      obtain ⟨q1, q2, q3, hpl, _⟩ := SG
      have hdsd : ∀ d ∈ ds, DtOk CP CC CT Gd d := fun d h => (hdsa d h).keep hpl kad
      refine sq_do (fun x G1 => ∃ t, Gd t = none ∧ G1 = upd (upd Gd t (.tup [.str z, .int key, .ref c1])) lp (.lst ((ds.map fun d => V.ref d.t) ++ [.ref t]))) (fun Q q => ?_) ?_
      · refine ⟨_, rfl, .inl ⟨rfl, _, SqL.of glpd⟩, _, rfl, _, rfl, _, rfl, (by show 3 ≤ sizeLine; decide), fun t nt => ⟨lp, _, _, rfl, rfl, (Lw.Same.new (Same.refl Gd) nt) _ _ glpd, by rw [List.length_map]; omega, q _ _ ⟨t, nt, rfl⟩⟩⟩
      rintro _ _ ⟨t, nt, rfl⟩
      have st : Same Gd (upd Gd t (.tup [.str z, .int key, .ref c1])) := Lw.Same.new (Same.refl Gd) nt
      have lpt : lp ≠ t := ne_of_none glpd nt
      have lmt : lm ≠ t := ne_of_none glmd nt
      have c1lp : c1 ≠ lp := fun e => by subst e; rw [glpd] at hc1; cases hc1
      have c1lm : c1 ≠ lm := fun e => by subst e; rw [glmd] at hc1; cases hc1
      have kE : Keep lp Gd (upd (upd Gd t (.tup [.str z, .int key, .ref c1])) lp (.lst ((ds.map fun d => V.ref d.t) ++ [.ref t]))) := fun b o nb h => by rw [upd_ne nb]; exact st _ _ h
      have hc1E := kE _ _ c1lp hc1
      have glmE := kE _ _ lpm.symm glmd
      have hdsE : ∀ d ∈ ds, DtOk CP CC CT _ d := fun d h => (hdsd d h).keep glpd kE
      have hlpE : (upd (upd Gd t (.tup [.str z, .int key, .ref c1])) lp (.lst ((ds.map fun d => V.ref d.t) ++ [.ref t]))) lp = some (.lst ((ds.map fun d => V.ref d.t) ++ [.ref t])) := upd_same
      have htE : (upd (upd Gd t (.tup [.str z, .int key, .ref c1])) lp (.lst ((ds.map fun d => V.ref d.t) ++ [.ref t]))) t = some (.tup [.str z, .int key, .ref c1]) := by rw [upd_ne lpt.symm]; exact upd_same
      generalize upd (upd Gd t (.tup [.str z, .int key, .ref c1])) lp (.lst ((ds.map fun d => V.ref d.t) ++ [.ref t])) = Ge at kE hc1E glmE hdsE hlpE htE ⊢
      refine s1_do (fun x G1 => ∃ m Gf, Same Ge Gf ∧ Msg CP CC CT Ge Gf m z key kv1 ∧ G1 = upd Gf lm (.lst ((ds.map fun d => V.ref d.m) ++ [.ref m]))) (fun Q q => ?_) ?_
      · exact ⟨_, rfl, .inl ⟨rfl, _, SqL.of glmE⟩, _, rfl, _, rfl, _, rfl, z, key, c1, kv1, rfl, hz, hc1E, ht1, fun m Gf sf hm => ⟨lm, _, _, rfl, rfl, sf _ _ glmE, by rw [List.length_map]; omega, q _ _ ⟨m, Gf, sf, hm, rfl⟩⟩⟩
      rintro _ _ ⟨m, Gf, sf, hm, rfl⟩
      have kF : Keep lm Ge (upd Gf lm (.lst ((ds.map fun d => V.ref d.m) ++ [.ref m]))) := fun b o nb h => by rw [upd_ne nb]; exact sf _ _ h
      have tlm : t ≠ lm := fun e => lmt e.symm
      have wlp : wl ≠ lp := lpw.symm
      have wlm : wl ≠ lm := lmw.symm
      have plp : p ≠ lp := lpp.symm
      have plm : p ≠ lm := lmp.symm
      have hwd : Gd wl = some (.lst (ws.map V.str)) := sd _ _ gwc
      obtain ⟨x1, x2, x3, y1, y2⟩ := Sd
      refine ⟨p, n + 2 + ws.length, _, _, _, _, _, _, _, _, _, _, _, _, _, ds ++ [⟨t, c1, m, z, key, kv1⟩], rfl, fun b o h => ?_, kF _ _ wlm (kE _ _ wlp hwd), ⟨x1, x2, x3, kF _ _ plm (kE _ _ plp y1), y2⟩, by omega, np, ?_, ?_, by rw [List.length_append, hdl]; rfl, fun d h => ?_, lpp, lmp⟩
      · exact kF _ _ (ne_of_none h nlm) (kE _ _ (ne_of_none h nlp) (kad _ _ (ne_of_none h np) (sGa _ _ h)))
      · rw [upd_ne lpm, List.map_append]; exact sf _ _ hlpE
      · rw [upd_same, List.map_append]; rfl
      · rcases List.mem_append.mp h with h | h
        · exact (hdsE d h).keep glmE kF
        · rw [List.mem_singleton.mp h]
          exact ⟨Ge, kF _ _ tlm htE, kF _ _ c1lm hc1E, rk1, hm.upd glmE⟩
    · rintro σ G ⟨p, n, v7, v8, v9, v10, v11, v12, v13, v14, v15, v16, v17, v18, v19, ds, rfl, sG, gw0, SG, hn, np, glp, glm, hdl, hds, lpp, lmp⟩
      have hdl6 : ds.length ≤ 6 := by omega
      dsimp only
      refine sq_set (fun x G1 => ∃ (D : Addr) (es : List (Addr × List (Key × V))), x = .ref D ∧ Same G G1 ∧ G1 D = some (.lst (es.map fun e => V.ref e.1)) ∧ es.length = ds.length ∧ ∀ (i : Nat) (d : Dt) (e : Addr × List (Key × V)), ds[i]? = some d → es[i]? = some e → (∃ N, Msg CP CC CT N G1 e.1 d.z d.key e.2) ∧ RowOk e.2 ∧ ∀ k, valV e.2 k = valV d.kvs k) (fun Q q => ?_) ?_
      · refine ⟨_, rfl, lp, rfl, ⟨_, SqL.of glp⟩, fun D nD => ?_⟩
        refine lc_list (xs := ds.map fun d => V.ref d.t) (fun j H' => ∃ es : List (Addr × List (Key × V)), H' D = some (.lst (es.map fun e => V.ref e.1)) ∧ es.length = j ∧ Same G H' ∧ ∀ (i : Nat) (d : Dt) (e : Addr × List (Key × V)), ds[i]? = some d → es[i]? = some e → (∃ N, N D ≠ none ∧ Msg CP CC CT N H' e.1 d.z d.key e.2) ∧ RowOk e.2 ∧ ∀ k, valV e.2 k = valV d.kvs k)
          ⟨[], upd_same, rfl, Lw.Same.new (Same.refl G) nD, fun i d e _ h => by cases h⟩ (fun j H' _ ⟨_, _, _, s', _⟩ => SqL.of (s' _ _ glp)) ?_ ?_
        · rintro j x H' hx ⟨es, hD, le, s', he⟩
          rw [List.getElem?_map] at hx
          obtain ⟨d, hd, rfl⟩ := Option.map_eq_some_iff.mp hx
          have hj : j < ds.length := (List.getElem?_eq_some_iff.mp hd).1
          obtain ⟨N, t1, t2, rk, hm⟩ := (hds d (List.mem_of_getElem? hd)).same s'
          refine ⟨d.t, _, rfl, SqT.of t1, rfl, _, _, rfl, _, _, rfl, _, _, rfl, rfl, rfl, ?_⟩
          refine ⟨_, rfl, _, rfl, _, rfl, d.c, d.kvs, rfl, t2, rk, fun cd Gt st hcd => ?_⟩
          refine ⟨d.z, d.key, cd, d.kvs.reverse, rfl, hm.deed, hcd, fun e => by rw [hm.nilT e]; rfl, fun m Gm sm hmm => ?_⟩
          have sHm := st.trans sm
          refine ⟨es.map fun e => V.ref e.1, sHm _ _ hD, by rw [List.length_map]; omega, es ++ [(m, d.kvs.reverse)], by rw [upd_same, List.map_append]; rfl, by rw [List.length_append, le]; rfl, same_at nD (s'.trans sHm), fun i d' e h1' h2' => ?_⟩
          have hDt : Gt D = some (.lst (es.map fun e => V.ref e.1)) := st _ _ hD
          rcases Nat.lt_or_ge i es.length with l | l
          · rw [List.getElem?_append_left l] at h2'
            obtain ⟨⟨N', n', hm'⟩, r', v'⟩ := he i d' e h1' h2'
            obtain ⟨o', ho'⟩ := Option.ne_none_iff_exists'.mp n'
            exact ⟨⟨N', n', (hm'.same sHm).upd ho'⟩, r', v'⟩
          · have hil : i < (es ++ [(m, d.kvs.reverse)]).length := (List.getElem?_eq_some_iff.mp h2').1
            rw [List.length_append] at hil
            have ei : i = es.length := by
              have : i < es.length + 1 := hil
              omega
            subst ei
            rw [List.getElem?_append_right (Nat.le_refl _), Nat.sub_self] at h2'
            cases h2'
            rw [le, hd] at h1'
            cases h1'
            exact ⟨⟨Gt, by rw [hDt]; exact Option.some_ne_none _, hmm.upd hDt⟩, rk.rev, fun k => valV_rev rk k⟩
        · rintro H' ⟨es, hD, le, s', he⟩
          refine q _ _ ⟨D, es, rfl, s', hD, by rw [le, List.length_map], fun i d e h1' h2' => ?_⟩
          obtain ⟨⟨N', _, hm'⟩, r', v'⟩ := he i d e h1' h2'
          exact ⟨⟨N', hm'⟩, r', v'⟩
      rintro _ G1 ⟨D, es, rfl, sg, hD, le, he⟩
      have glp1 := sg _ _ glp
      have glm1 := sg _ _ glm
      have hds1 : ∀ d ∈ ds, DtOk CP CC CT G1 d := fun d h => (hds d h).same sg
      refine ⟨_, rfl, lp, _, rfl, SqL.of glp1, ?_⟩
      refine for_it (walk_enum (xs := ds.map fun d => V.ref d.t)) (fun i σ G' => Same G1 G' ∧ ∃ (v7 v8 v9 v10 v11 v12 v14 v15 v16 v17 v18 v19 : Option V), σ = [some (.ref a), some (.ref p), some (.ref wl), some (.int low), some (.int bs), some (.ref lp), some (.ref lm), v7, v8, v9, v10, v11, v12, some (.ref D), v14, v15, v16, v17, v18, v19])
        ⟨Same.refl _, _, _, _, _, _, _, _, _, _, _, _, _, rfl⟩ (fun i σ G' _ ⟨s', _⟩ => SqL.of (s' _ _ glp1)) ?_ ?_
      · rintro i x σ G2 G3 hi ⟨s2, v7, v8, v9, v10, v11, v12, v14, v15, v16, v17, v18, v19, rfl⟩ ⟨t, x0, x1, rfl, nt, rfl, q1, q2⟩
        cases q1
        have q3 : (ds.map fun d => V.ref d.t)[i]? = some x1 := q2
        rw [List.getElem?_map] at q3
        obtain ⟨d, hd, rfl⟩ := Option.map_eq_some_iff.mp q3
        have s3 : Same G1 (upd G2 t (.tup [.int (i : Nat), .ref d.t])) := Lw.Same.new s2 nt
        refine ⟨t, _, rfl, SqT.of upd_same, rfl, _, _, rfl, _, _, rfl, rfl, ?_⟩
        generalize upd G2 t (.tup [.int (i : Nat), .ref d.t]) = G4 at s3 ⊢
        refine ⟨_, rfl, lp, _, rfl, SqL.of (s3 _ _ glp1), ?_⟩
        refine for_it (walk_enum (xs := ds.map fun d => V.ref d.t)) (fun j σ G' => Same G1 G' ∧ ∃ (v7 v8 v9 v10 v11 v12 v16 v17 v18 v19 : Option V), σ = [some (.ref a), some (.ref p), some (.ref wl), some (.int low), some (.int bs), some (.ref lp), some (.ref lm), v7, v8, v9, v10, v11, v12, some (.ref D), some (.int (i : Nat)), some (.ref d.t), v16, v17, v18, v19])
          ⟨s3, _, _, _, _, _, _, _, _, _, _, rfl⟩ (fun j σ G' _ ⟨s', _⟩ => SqL.of (s' _ _ glp1)) ?_ ?_
        · rintro j x σ G5 G6 hj ⟨s5, v7, v8, v9, v10, v11, v12, v16, v17, v18, v19, rfl⟩ ⟨t, x0, x1, rfl, nt, rfl, q1, q2⟩
          cases q1
          have q4 : (ds.map fun d => V.ref d.t)[j]? = some x1 := q2
          rw [List.getElem?_map] at q4
          obtain ⟨d2, hd2, rfl⟩ := Option.map_eq_some_iff.mp q4
          have hjl : j < ds.length := (List.getElem?_eq_some_iff.mp hd2).1
          have s6 : Same G1 (upd G5 t (.tup [.int (j : Nat), .ref d2.t])) := Lw.Same.new s5 nt
          refine ⟨t, _, rfl, SqT.of upd_same, rfl, _, _, rfl, _, _, rfl, rfl, ?_⟩
          generalize upd G5 t (.tup [.int (j : Nat), .ref d2.t]) = G7 at s6 ⊢
          obtain ⟨N1, a1, a2, rk1, hm1⟩ := (hds1 d (List.mem_of_getElem? hd)).same s6
          obtain ⟨N2, b1, b2, rk2, hm2⟩ := (hds1 d2 (List.mem_of_getElem? hd2)).same s6
          have hje : es[j]? = some es[j] := List.getElem?_eq_getElem (by omega)
          obtain ⟨⟨N3, hm3⟩, rk3, vl3⟩ := he j d2 _ hd2 hje
          generalize es[j] = e at hje hm3 rk3 vl3
          have hm3' := hm3.same s6
          have eS : sameK d.kvs e.2 = sameK d.kvs d2.kvs := sameK_congr rk1 rk3 rk2 vl3
          refine sq_set (fun x G' => G7 = G' ∧ x = .bl (decide (d.z = d2.z) && (decide (d.key = d2.key) && sameK d.kvs d2.kvs))) (fun Q q => ⟨_, rfl, _, rfl, d.t, d2.t, d.c, d2.c, d.z, d2.z, d.key, d2.key, d.kvs, d2.kvs, rfl, rfl, a1, b1, a2, b2, rk1, rk2, q _ _ ⟨rfl, rfl⟩⟩) ?_
          rintro _ _ ⟨rfl, rfl⟩
          have at1 : atI (ds.map fun d => V.ref d.m) (i : Nat) = some (.ref d.m) := atI_nat (by rw [List.getElem?_map, hd]; rfl)
          have at2 : atI (ds.map fun d => V.ref d.m) (j : Nat) = some (.ref d2.m) := atI_nat (by rw [List.getElem?_map, hd2]; rfl)
          have at3 : atI (es.map fun e => V.ref e.1) (j : Nat) = some (.ref e.1) := atI_nat (by rw [List.getElem?_map, hje]; rfl)
          have lm7 := s6 _ _ glm1
          have D7 := s6 _ _ hD
          generalize hdue : (decide (d.z = d2.z) && (decide (d.key = d2.key) && sameK d.kvs d2.kvs)) = due
          refine sq_if1 (fun b G' => G7 = G' ∧ b = false) (fun Q q => ?_) ?_ ?_
          · refine ⟨_, rfl, _, rfl, lm, _, _, _, rfl, rfl, SqL.of lm7, at1, _, rfl, _, rfl, D, _, _, _, rfl, rfl, SqL.of D7, at3, ms_ms M hm1 hm3' rk1 rk3 ?_⟩
            rw [eS, hdue]
            refine ⟨_, rfl, rfl, _, rfl, it_bf (by simp) ?_⟩
            refine ⟨_, rfl, _, rfl, lm, _, _, _, rfl, rfl, SqL.of lm7, at1, _, rfl, _, rfl, D, _, _, _, rfl, rfl, SqL.of D7, at3, ms_ms M hm1 hm3' rk1 rk3 ?_⟩
            rw [eS, hdue]
            exact ⟨_, rfl, rfl, _, rfl, q _ _ ⟨rfl, by cases due <;> rfl⟩⟩
          · rintro G' ⟨_, h⟩
            cases h
          rintro _ ⟨rfl, _⟩
          refine ⟨_, rfl, _, rfl, lm, _, _, _, rfl, rfl, SqL.of lm7, at1, _, rfl, _, rfl, lm, _, _, _, rfl, rfl, SqL.of lm7, at2, ms_ms M hm1 hm2 rk1 rk2 ?_⟩
          rw [hdue]
          exact ⟨_, rfl, rfl, _, rfl, it_bf (by simp) ⟨s6, _, _, _, _, _, _, _, _, _, _, rfl⟩⟩
        · rintro σ G5 ⟨s5, v7, v8, v9, v10, v11, v12, v16, v17, v18, v19, rfl⟩
          obtain ⟨N1, a1, a2, rk1, hm1⟩ := (hds1 d (List.mem_of_getElem? hd)).same s5
          dsimp only
          refine ⟨_, rfl, d.t, _, rfl, SqT.of a1, rfl, _, _, rfl, _, _, rfl, _, _, rfl, rfl, ?_⟩
          refine ⟨_, rfl, _, rfl, _, rfl, _, rfl, _, rfl, (by show 2 ≤ sizeLine; decide), fun t1 n1 => ⟨_, rfl, _, rfl, _, rfl, (by show 3 ≤ sizeLine; decide), fun l1 n2 => ⟨(by show 8 ≤ sizeLine; decide), fun L n3 => ⟨L, rfl, ⟨_, SqL.of upd_same⟩, ?_⟩⟩⟩⟩
          have r1 := Lw.Same.new (o := .tup [.int d.key, .ref d.c]) (Same.refl G5) n1
          have r2 := Lw.Same.new (o := .lst [.str d.z, .int d.key, .ref d.c]) (Same.refl _) n2
          have r3 := Lw.Same.new (o := .lst [V.non, .int 0, .int d.key, .str d.z, .ref d.c, .ref t1, .ref l1, .bl true]) (Same.refl _) n3
          have s9 := ((s5.trans r1).trans r2).trans r3
          have hL := upd_same (H := upd (upd G5 t1 (.tup [.int d.key, .ref d.c])) l1 (.lst [.str d.z, .int d.key, .ref d.c])) (a := L) (o := .lst [V.non, .int 0, .int d.key, .str d.z, .ref d.c, .ref t1, .ref l1, .bl true])
          have ht1 := (r2.trans r3) _ _ (upd_same (H := G5) (a := t1) (o := .tup [.int d.key, .ref d.c]))
          have hl1 := r3 _ _ (upd_same (H := upd G5 t1 (.tup [.int d.key, .ref d.c])) (a := l1) (o := .lst [.str d.z, .int d.key, .ref d.c]))
          have hc9 := ((r1.trans r2).trans r3) _ _ a2
          have hm9 := hm1.same ((r1.trans r2).trans r3)
          generalize upd (upd (upd G5 t1 (.tup [.int d.key, .ref d.c])) l1 (.lst [.str d.z, .int d.key, .ref d.c])) L (.lst [V.non, .int 0, .int d.key, .str d.z, .ref d.c, .ref t1, .ref l1, .bl true]) = G9 at s9 hL ht1 hl1 hc9 hm9 ⊢
          have hpl : ∀ v ∈ [V.non, .int 0, .int d.key, .str d.z, .ref d.c, .ref t1, .ref l1, .bl true], ∃ t, Pl G9 v t := fun v hv => by
            simp only [List.mem_cons, List.not_mem_nil, or_false] at hv
            rcases hv with rfl | rfl | rfl | rfl | rfl | rfl | rfl | rfl
            · exact ⟨_, .non⟩
            · exact ⟨_, .int _⟩
            · exact ⟨_, .int _⟩
            · exact ⟨_, .str _⟩
            · exact ⟨_, .dic hc9⟩
            · exact ⟨_, .tup ht1⟩
            · exact ⟨_, .lst hl1⟩
            · exact ⟨_, .bl _⟩
          have at1 : atI (ds.map fun d => V.ref d.m) (i : Nat) = some (.ref d.m) := atI_nat (by rw [List.getElem?_map, hd]; rfl)
          have lm9 := s9 _ _ glm1
          refine for_list (xs := [V.non, .int 0, .int d.key, .str d.z, .ref d.c, .ref t1, .ref l1, .bl true]) (fun j σ G' => G9 = G' ∧ ∃ (v16 v17 v18 v19 : Option V), σ = [some (.ref a), some (.ref p), some (.ref wl), some (.int low), some (.int bs), some (.ref lp), some (.ref lm), v7, some (.str d.z), some (.int d.key), some (.ref d.c), v11, v12, some (.ref D), some (.int (i : Nat)), some (.ref d.t), v16, v17, v18, v19])
            ⟨rfl, _, _, _, _, rfl⟩ (fun j σ G' _ ⟨e, _⟩ => e ▸ SqL.of hL) ?_ ?_
          · rintro j v σ G' hv ⟨rfl, v16, v17, v18, v19, rfl⟩
            obtain ⟨ty, hp⟩ := hpl v (List.mem_of_getElem? hv)
            refine g_name ?_
            refine ⟨_, rfl, _, rfl, lm, _, _, _, rfl, rfl, SqL.of lm9, at1, _, rfl, ms_plain M hm9 rk1 hp ?_⟩
            refine ⟨_, rfl, it_bf rfl ?_⟩
            refine ⟨_, rfl, _, rfl, lm, _, _, _, rfl, rfl, SqL.of lm9, at1, _, rfl, ms_plain M hm9 rk1 hp ?_⟩
            exact ⟨_, rfl, it_bf rfl ⟨rfl, _, _, _, _, rfl⟩⟩
          · rintro σ G' ⟨rfl, v16, v17, v18, v19, rfl⟩
            exact ⟨s9, _, _, _, _, _, _, _, _, _, _, _, _, rfl⟩
      · rintro σ G' ⟨s', v7, v8, v9, v10, v11, v12, v14, v15, v16, v17, v18, v19, rfl⟩
        exact k _
end
end Lw

set_option Elab.async false
set_option linter.all false
set_option maxRecDepth 100000
set_option maxHeartbeats 0
namespace Lw
open PySem PySem.Spec PyProof.Rows L2
def fn : List He5.DefA := [dM "Put" "__init__" "Put.__init__" sPutI, dM "Put" "__eq__" "Put.__eq__" sPutE, dM "Change" "__init__" "Change.__init__" sChgI, dM "Change" "__eq__" "Change.__eq__" sChgE, dM "Take" "__init__" "Take.__init__" sTakeI, dM "Take" "__eq__" "Take.__eq__" sTakeE,
  dG "_law_source" sSource, dG "_law_draw" sDraw, dG "_law_pick" sPick, dG "_law_word" sWord, dG "_law_words" sWords, dG "_law_number" sNumber, dG "_law_message" sMessage, dG "_law_turned" sTurned, dG "law" sLaw]
def glos : List Str := ["Put", "Change", "Take", "_law_source", "_law_draw", "_law_pick", "_law_word", "_law_words", "_law_number", "_law_message", "_law_turned", "law"]
def frees : List Str := ["len", "abs", "int", "range", "sum", "isinstance", "list", "dict", "max", "min", "enumerate"]
def fa : List He.Fa := glos.map He.Fa.glo ++ (frees.map He.Fa.free ++ [.cls "Put", .noat "Put" "key", .noat "Put" "_cells", .mkr "Put", .meth "Put" "__eq__", .cls "Change", .noat "Change" "key", .noat "Change" "_cells", .mkr "Change", .meth "Change" "__eq__", .cls "Take", .noat "Take" "key", .mkr "Take", .meth "Take" "__eq__"])
def plS : List String := ["NoneType", "int", "bool", "str", "tuple", "list", "dict"]
def ownC (K : PySem.W.Frag) (C : Str) : Bool := Hk.insB K (He.ga K C) && (He.eqO (PySem.W.findIn K (.ref (He.ga K C)) "__ne__") (some (some (.builtin "object.__ne__"))) && (plS.all (fun t => PySem.W.notFirst K (He.ga K C) (.type t)) && plS.all (fun t => decide (PySem.W.kitOne K (.type t) (.ref (He.ga K C)) = some false))))
def cls3 : List Str := ["Put", "Change", "Take"]
def own (K : PySem.W.Frag) : Bool := ownC K "Put" && (ownC K "Change" && (ownC K "Take" && cls3.all fun c => cls3.all fun d => PySem.W.notFirst K (He.ga K c) (.ref (He.ga K d)) && (decide (c = d) || decide (PySem.W.kitOne K (.ref (He.ga K d)) (.ref (He.ga K c)) = some false))))
abbrev R : PySem.W.OpenRow := PySem.W.OpenLaw.row PySem.Challenge.rw_filteredcopies_k32_messages_equal
abbrev qv : Program := PySem.W.view R.prog [15]
def names : List Str := ["Message", "Put", "Change", "Take", "_law_source", "_law_draw", "_law_pick", "_law_word", "_law_words", "_law_number", "_law_message", "_law_cells", "_law_turned"]
abbrev hk : PySem.W.Hook := Hc.hook 6 fa fn own
def ob (s : PySem.W.SharedT) : Hc.Al := Hc.obG 6 fa fn own (HandSHeadRun.getT s)
theorem ob_eq (s : PySem.W.SharedT) : ob s = hk.obs s.abs := Hc.obG_eq (HandSHeadRun.getT_eq s)
theorem run (w : World) : HandSHeadRun.RunEq R qv hk ob 9000 names w :=
  PySem.W.byRow2 "special-get-raises" (P := fun w => HandSHeadRun.RunEq R qv hk ob 9000 names w) (fun w => by intro os; kernel_rfl) (fun w => by intro os; kernel_rfl) w
end Lw

set_option Elab.async false
set_option linter.all false
set_option maxRecDepth 100000
set_option maxHeartbeats 4000000
namespace Lw
open PySem PySem.Spec PyProof.Rows L2
section
variable {K : PySem.W.Frag} {h : Heap} {mg : Str → Option Value}
theorem f_glo (X : K.In h) (G : h.Ns mainGlobals mg) (c : Hc.Says fa fn own K) {x : Str} (hx : x ∈ glos) : mg x = some (.ref (He.ga K x)) :=
  He.glo_ok X G (c.fact (f := .glo x) (List.mem_append_left _ (List.mem_map_of_mem hx)))
theorem f_free (X : K.In h) (G : h.Ns mainGlobals mg) (c : Hc.Says fa fn own K) {x : Str} (hx : x ∈ frees) : mg x = none :=
  He.free_ok X G (c.fact (f := .free x) (List.mem_append_right _ (List.mem_append_left _ (List.mem_map_of_mem hx))))
end
theorem facts {P : Program} {w : World} {K : PySem.W.Frag} {h : Heap} {mg : Str → Option Value} {f : Addr} (X : K.In h) (G : h.Ns mainGlobals mg) (hfa : mg ("law" : Str) = some (.ref f)) (c : Hc.Says fa fn own K) :
    ∃ fd : FuncData, (∀ (s : Shared) (v : Value), BindsTo s fd ⟨[v], []⟩ [("script", v)]) ∧ ∀ base : Heap, K.In base → base.Ns mainGlobals mg → FnOk P w K mg base CX0 4 f fd ["script"] (spLaw K) := by
  have gl : ∀ {x : Str}, x ∈ glos → mg x = some (.ref (He.ga K x)) := fun hx => f_glo X G c hx
  have fr : ∀ {x : Str}, x ∈ frees → mg x = none := fun hx => f_free X G c hx
  obtain ⟨oP, o⟩ := He.ba c.2
  obtain ⟨oC, o⟩ := He.ba o
  obtain ⟨oT, oX⟩ := He.ba o
  have own1 : ∀ {C : Str}, ownC K C = true → Cls K (He.ga K C) → NoAttr K (He.ga K C) "key" → TxtC1 K (He.ga K C) ∧ PySem.W.findIn K (.ref (He.ga K C)) "__ne__" = some (some (.builtin "object.__ne__")) ∧ (∀ t ∈ plT, PySem.W.notFirst K (He.ga K C) (.type t) = true ∧ PySem.W.kitOne K (.type t) (.ref (He.ga K C)) = some false) := fun {C} h hc hn => by
    obtain ⟨a1, a⟩ := He.ba h
    obtain ⟨a2, a⟩ := He.ba a
    obtain ⟨a3, a4⟩ := He.ba a
    obtain ⟨i1, i⟩ := He.ba a1
    obtain ⟨i2, i⟩ := He.ba i
    obtain ⟨i3, i4⟩ := He.ba i
    exact ⟨⟨hc, hn, He.eqO_ok i1, of_decide_eq_true i3, of_decide_eq_true i4, of_decide_eq_true i2⟩, He.eqO_ok a2, fun t ht => ⟨List.all_eq_true.mp a3 t ht, of_decide_eq_true (List.all_eq_true.mp a4 t ht)⟩⟩
  obtain ⟨TP, neP, plP⟩ := own1 oP (He.cls_ok (c.fact (by unfold fa; simp))) (He.noat_ok (c.fact (by unfold fa; simp)))
  obtain ⟨TC, neC, plC⟩ := own1 oC (He.cls_ok (c.fact (by unfold fa; simp))) (He.noat_ok (c.fact (by unfold fa; simp)))
  obtain ⟨TT, neT, plTk⟩ := own1 oT (He.cls_ok (c.fact (by unfold fa; simp))) (He.noat_ok (c.fact (by unfold fa; simp)))
  have nCP : NoAttr K (He.ga K "Put") "_cells" := He.noat_ok (c.fact (by unfold fa; simp))
  have nCC : NoAttr K (He.ga K "Change") "_cells" := He.noat_ok (c.fact (by unfold fa; simp))
  have two : ∀ a ∈ cls3, ∀ b ∈ cls3, PySem.W.notFirst K (He.ga K a) (.ref (He.ga K b)) = true ∧ (a ≠ b → PySem.W.kitOne K (.ref (He.ga K b)) (.ref (He.ga K a)) = some false) := fun a ha b hb => by
    obtain ⟨x1, x2⟩ := He.ba (List.all_eq_true.mp (List.all_eq_true.mp oX a ha) b hb)
    exact ⟨x1, fun ne => by
      rcases Bool.or_eq_true_iff.mp x2 with h | h
      · exact absurd (of_decide_eq_true h) ne
      · exact of_decide_eq_true h⟩
  obtain ⟨d0, D0⟩ := c.1.def_ 0 (d := dM "Put" "__init__" "Put.__init__" sPutI) rfl
  obtain ⟨d1, D1⟩ := c.1.def_ 1 (d := dM "Put" "__eq__" "Put.__eq__" sPutE) rfl
  obtain ⟨d2, D2⟩ := c.1.def_ 2 (d := dM "Change" "__init__" "Change.__init__" sChgI) rfl
  obtain ⟨d3, D3⟩ := c.1.def_ 3 (d := dM "Change" "__eq__" "Change.__eq__" sChgE) rfl
  obtain ⟨d4, D4⟩ := c.1.def_ 4 (d := dM "Take" "__init__" "Take.__init__" sTakeI) rfl
  obtain ⟨d5, D5⟩ := c.1.def_ 5 (d := dM "Take" "__eq__" "Take.__eq__" sTakeE) rfl
  obtain ⟨d6, D6⟩ := c.1.def_ 6 (d := dG "_law_source" sSource) rfl
  obtain ⟨d7, D7⟩ := c.1.def_ 7 (d := dG "_law_draw" sDraw) rfl
  obtain ⟨d8, D8⟩ := c.1.def_ 8 (d := dG "_law_pick" sPick) rfl
  obtain ⟨d9, D9⟩ := c.1.def_ 9 (d := dG "_law_word" sWord) rfl
  obtain ⟨d10, D10⟩ := c.1.def_ 10 (d := dG "_law_words" sWords) rfl
  obtain ⟨d11, D11⟩ := c.1.def_ 11 (d := dG "_law_number" sNumber) rfl
  obtain ⟨d12, D12⟩ := c.1.def_ 12 (d := dG "_law_message" sMessage) rfl
  obtain ⟨d13, D13⟩ := c.1.def_ 13 (d := dG "_law_turned" sTurned) rfl
  obtain ⟨d14, D14⟩ := c.1.def_ 14 (d := dG "law" sLaw) rfl
  have e := hfa.symm.trans (gl (x := "law") (by decide +kernel))
  cases e
  refine ⟨d14, fun s v => FunD.bindsA (ps := ["script"]) D14 (fun _ _ _ _ _ _ us hl => match us, hl with | [_], _ => rfl) s [v] rfl, fun base KB GB => ?_⟩
  have TD : TxtD mg := ⟨fr (by decide +kernel), fr (by decide +kernel), fr (by decide +kernel), fr (by decide +kernel)⟩
  have hd : mg "dict" = none := fr (by decide +kernel)
  have hi : mg "isinstance" = none := fr (by decide +kernel)
  have cD := cal_draw (P := P) (w := w) (base := base) TD ⟨_, _, gl (by decide +kernel), D7⟩
  have cS : Cal P w K mg base CX0 "_law_source" 1 ["script", "at"] (spSource K) := ⟨_, _, gl (by decide +kernel), D6.kp, ok_source D6 TD (fr (by decide +kernel)), D6.bindsN fun _ _ _ _ _ _ us hl => match us, hl with | [_, _], _ => rfl⟩
  have cPk : Cal P w K mg base CX0 "_law_pick" 2 ["source", "some"] (spOf K) := ⟨_, _, gl (by decide +kernel), D8.kp, ok_pick D8 TD cD, D8.bindsN fun _ _ _ _ _ _ us hl => match us, hl with | [_, _], _ => rfl⟩
  have cW : Cal P w K mg base CX0 "_law_word" 2 ["source", "taken"] (spWord2 K) := ⟨_, _, gl (by decide +kernel), D9.kp, ok_word D9 TD cD, D9.bindsN fun _ _ _ _ _ _ us hl => match us, hl with | [_, _], _ => rfl⟩
  have cWs : Cal P w K mg base CX0 "_law_words" 3 ["source", "many", "taken"] (spWords K) := ⟨_, _, gl (by decide +kernel), D10.kp, ok_words D10 TD cW, D10.bindsN fun _ _ _ _ _ _ us hl => match us, hl with | [_, _, _], _ => rfl⟩
  have cN : Cal P w K mg base CX0 "_law_number" 2 ["source", "limit"] spNumL := ⟨_, _, gl (by decide +kernel), D11.kp, ok_number D11 cD, D11.bindsN fun _ _ _ _ _ _ us hl => match us, hl with | [_, _], _ => rfl⟩
  have mP : MkS P w K mg base "Put" (He.ga K "Put") (spMI (He.ga K "Put")) ["self", "key", "cells"] := ⟨gl (by decide +kernel), _, _, He.mkr_ok (c.fact (by unfold fa; simp)), ok_putI D0 TP nCP hd, D0.bindsN fun _ _ _ _ _ _ us hl => match us, hl with | [_, _, _], _ => rfl⟩
  have mC : MkS P w K mg base "Change" (He.ga K "Change") (spMI (He.ga K "Change")) ["self", "key", "cells"] := ⟨gl (by decide +kernel), _, _, He.mkr_ok (c.fact (by unfold fa; simp)), ok_chgI D2 TC nCC hd, D2.bindsN fun _ _ _ _ _ _ us hl => match us, hl with | [_, _, _], _ => rfl⟩
  have mT : MkS P w K mg base "Take" (He.ga K "Take") (spTI (He.ga K "Take")) ["self", "key"] := ⟨gl (by decide +kernel), _, _, He.mkr_ok (c.fact (by unfold fa; simp)), ok_takeI D4 TT, D4.bindsN fun _ _ _ _ _ _ us hl => match us, hl with | [_, _], _ => rfl⟩
  have cM : Cal P w K mg base CX0 "_law_message" 3 ["deed", "key", "cells"] (spMsg (He.ga K "Put") (He.ga K "Change") (He.ga K "Take")) := ⟨_, _, gl (by decide +kernel), D12.kp, ok_message D12 hd mP mC mT, D12.bindsN fun _ _ _ _ _ _ us hl => match us, hl with | [_, _, _], _ => rfl⟩
  have cT : Cal P w K mg base CX0 "_law_turned" 1 ["cells"] spTurned := ⟨_, _, gl (by decide +kernel), D13.kp, ok_turned D13 hd (fr (by decide +kernel)), D13.bindsN fun _ _ _ _ _ _ us hl => match us, hl with | [_], _ => rfl⟩
  have mth : ∀ {C : Str}, He.Fa.meth C "__eq__" ∈ fa → Meth K (He.ga K C) "__eq__" (He.ma K (He.ga K C) "__eq__") := fun h => He.meth_ok (c.fact h)
  have qP := He.meth_ok (c.fact (f := .meth "Put" "__eq__") (by unfold fa; simp))
  have qC := He.meth_ok (c.fact (f := .meth "Change" "__eq__") (by unfold fa; simp))
  have qT := He.meth_ok (c.fact (f := .meth "Take" "__eq__") (by unfold fa; simp))
  have M : EqF P w K mg base (He.ga K "Put") (He.ga K "Change") (He.ga K "Take") := by
    refine ⟨⟨TP, ⟨_, _, ⟨qP.at_, neP, qP.fn, TP.hm⟩, ok_putE D1 TP nCP (gl (by decide +kernel)) hi, D1.bindsN fun _ _ _ _ _ _ us hl => match us, hl with | [_, _], _ => rfl⟩, plP⟩, ⟨TC, ⟨_, _, ⟨qC.at_, neC, qC.fn, TC.hm⟩, ok_chgE D3 TC nCC (gl (by decide +kernel)) hi, D3.bindsN fun _ _ _ _ _ _ us hl => match us, hl with | [_, _], _ => rfl⟩, plC⟩,
      ⟨TT, ⟨_, _, ⟨qT.at_, neT, qT.fn, TT.hm⟩, ok_takeE D5 TT (gl (by decide +kernel)) hi, D5.bindsN fun _ _ _ _ _ _ us hl => match us, hl with | [_, _], _ => rfl⟩, plTk⟩, fun z hz z2 hz2 => ?_⟩
    have name : ∀ z ∈ deeds, ∃ n ∈ cls3, clsOf (He.ga K "Put") (He.ga K "Change") (He.ga K "Take") z = He.ga K n ∧ ((z = "put" ∧ n = "Put") ∨ (z = "change" ∧ n = "Change") ∨ (z = "take" ∧ n = "Take")) := fun z hz => by
      rcases List.mem_cons.mp hz with rfl | hz
      · exact ⟨"Put", by decide, rfl, .inl ⟨rfl, rfl⟩⟩
      rcases List.mem_cons.mp hz with rfl | hz
      · exact ⟨"Change", by decide, rfl, .inr (.inl ⟨rfl, rfl⟩)⟩
      rcases List.mem_cons.mp hz with rfl | hz
      · exact ⟨"Take", by decide, rfl, .inr (.inr ⟨rfl, rfl⟩)⟩
      cases hz
    obtain ⟨n1, hn1, e1, c1⟩ := name z hz
    obtain ⟨n2, hn2, e2, c2⟩ := name z2 hz2
    obtain ⟨t1, t2⟩ := two n1 hn1 n2 hn2
    rw [e1, e2]
    refine ⟨t1, fun ne => t2 fun en => ne ?_⟩
    rcases c1 with ⟨rfl, rfl⟩ | ⟨rfl, rfl⟩ | ⟨rfl, rfl⟩ <;> rcases c2 with ⟨rfl, rfl⟩ | ⟨rfl, rfl⟩ | ⟨rfl, rfl⟩ <;> first | rfl | exact absurd en (by decide)
  exact ok_law D14 ⟨cS, cD, cPk, cWs, cN, cM, cT, fr (by decide +kernel), fr (by decide +kernel), fr (by decide +kernel), fr (by decide +kernel), fr (by decide +kernel)⟩ M
end Lw

open PySem PySem.W PyProof.Rows in
theorem PySem.Challenge.cw_filteredcopies_k32_messages_equal_holds : PySem.Challenge.rw_filteredcopies_k32_messages_equal.Holds := by
  w_on; o_law
  refine HandSHeadRun.head_any (r := Lw.R) (q := Lw.qv) (H := Lw.hk) (ob := Lw.ob) (M := 9000) (loose := Lw.names) (d := HandSHeadRun.topDef Lw.R.prog 15) (kwd := []) Lw.ob_eq
    (by kernel_rfl) (fun s => by kernel_rfl) Lw.run (by kernel_rfl) (by kernel_rfl) (by kernel_rfl) (by rfl) (by first | assumption | decide +kernel) (by decide +kernel) ⟨rfl, rfl, rfl, rfl, rfl, by decide +kernel⟩ ?hw ?hc
  case hw => w_witness2
  case hc =>
    refine L2.walk_ofE (l := PySem.Challenge.rw_filteredcopies_k32_messages_equal) (n := 63) (k := 4) (x := "script") (CX := L2.CX0) rfl (by decide) (by kernel_rfl) ⟨rfl, by decide, by decide⟩ ?F (fun _ _ _ _ z => z)
    intro w mg fa h Y G hmg0
    obtain ⟨K, KX, c⟩ := Y
    have hmg : mg ("law" : PySem.Str) = some (.ref fa) := by
      have e : (HandSHeadRun.topDef Lw.R.prog 15).name = ("law" : PySem.Str) := by kernel_rfl
      rw [← e]
      exact hmg0
    obtain ⟨fd, hb, hF⟩ := Lw.facts (P := (PySem.Challenge.rw_filteredcopies_k32_messages_equal).prog) (w := w) KX G hmg c
    exact ⟨K, fd, Lw.spLaw K, KX, hb, fun H a ns hl _ hS => ⟨a, ns, rfl, hS, hl, fun _ => rfl⟩, hF⟩
