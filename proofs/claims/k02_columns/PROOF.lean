import PyProof.Rows.All
import Wide.All
import OpenK.AllK
import Wide.FinOn
import HandS.Base
import HandS.Call
import HandS.List
import HandS.Comp
import HandS.Dict
import HandS.Iter
import HandS.Text
import HandS.Ends
import HandS.Words
import HandS.WordsList
import HandS.Exc
import HandS.ExcOwn
import HandS.TryOnly
import HandS.ExcInit
import HandS.More
import HandS.Defaults
import HandS.Walk
import KE.KExcIs
import HandS.IsInst
import HandS.ExcIs
import HandS.ExcField
import HandS.Style
import HandS.WordsExc
import HandS.Head0
import HandS.Head1
import HandS.Head2
import HandS.HeadEnd
import HandS.HeadHook1
import HandS.HeadHook2
import HandS.HeadHook3
import HandS.ExcCtx
import HandS.HotCalls
import HandS.ClsMeth
import HandS.Star
import HandS.MakeKwOnly
import HandS.RaiseMore
import PyProof.ReprRoads
import HandS.OwnEq
import HandS.DictComp
import HandS.HeadNt
import PySem.Challenge.RW_filteredcopies_k02_columns
set_option Elab.async false
set_option linter.all false
set_option maxRecDepth 100000
set_option maxHeartbeats 4000000
namespace Lw
open PySem PySem.Spec PyProof.Rows L2
abbrev MethD (K : PySem.W.Frag) (x q : Str) (st : Stmt) (f : Addr) (fd : FuncData) : Prop := FunD K x q (defArgs st) (defBody st) (defScope st) [] [] f fd
/-! heaps: all but what stands at a is kept -/
def Keep (a : Addr) (H H' : Hp) : Prop := ∀ b o, b ≠ a → H b = some o → H' b = some o
theorem Keep.refl {a : Addr} (H : Hp) : Keep a H H := fun _ _ _ h => h
theorem Keep.trans {a : Addr} {H H1 H2 : Hp} (x : Keep a H H1) (y : Keep a H1 H2) : Keep a H H2 := fun b o n h => y b o n (x b o n h)
theorem Keep.of_same {a : Addr} {H H' : Hp} (s : Same H H') : Keep a H H' := fun b o _ h => s b o h
theorem Keep.upd {a : Addr} {H H' : Hp} {o : HO} (k : Keep a H H') : Keep a H (upd H' a o) := fun b u n h => by
  rw [upd_ne n]
  exact k b u n h
theorem Keep.new {a p : Addr} {H H' : Hp} {o : HO} (k : Keep a H H') (hp : H' p = none) : Keep a H (L2.upd H' p o) := fun b u n h => by
  rw [upd_ne (ne_of_none (k b u n h) hp)]
  exact k b u n h
theorem Keep.seq {K : PySem.W.Frag} {a b : Addr} {H H' : Hp} {xs : List V} (k : Keep a H H') (n : b ≠ a) (h : SqL K H b xs) : SqL K H' b xs := by
  rcases h with (h | ⟨o, h⟩) | h
  · exact .inl (.inl (k _ _ n h))
  · exact .inl (.inr ⟨o, k _ _ n h⟩)
  · exact .inr h
theorem Keep.seqT {K : PySem.W.Frag} {a b : Addr} {H H' : Hp} {xs : List V} (k : Keep a H H') (n : b ≠ a) (h : SqT K H b xs) : SqT K H' b xs := by
  rcases h with (h | ⟨o, h⟩) | h
  · exact .inl (.inl (k _ _ n h))
  · exact .inl (.inr ⟨o, k _ _ n h⟩)
  · exact .inr h
/-- the drawing's source: three numbers; n bounds how often was drawn -/
def Src (H : Hp) (a : Addr) (n : Nat) : Prop := ∃ d s t : Int, H a = some (.lst [.int d, .int s, .int t]) ∧ 0 ≤ d ∧ 0 ≤ s ∧ s < 9223372036854775808 ∧ 0 ≤ t ∧ t ≤ (n : Int)
theorem Src.mono {H : Hp} {a : Addr} {n m : Nat} (h : Src H a n) (l : n ≤ m) : Src H a m := by
  obtain ⟨d, s, t, h1, h2, h3, h4, h5, h6⟩ := h
  exact ⟨d, s, t, h1, h2, h3, h4, h5, by omega⟩
theorem Src.new {H : Hp} {a p : Addr} {n : Nat} {o : HO} (h : Src H a n) (hp : H p = none) : Src (upd H p o) a n := by
  obtain ⟨d, s, t, h1, h2⟩ := h
  exact ⟨d, s, t, by rw [upd_ne (ne_of_none h1 hp)]; exact h1, h2⟩
theorem Src.ne {H : Hp} {a p : Addr} {n : Nat} (h : Src H a n) (hp : H p = none) : p ≠ a := by
  obtain ⟨d, s, t, h1, _⟩ := h
  exact (ne_of_none h1 hp).symm
abbrev big : Nat := 1000000000
/-! steps: a statement's reading by what its expression comes to -/
section
variable {te : TE} {c : TT} {u v t1 t2 : TS} {D : Ends} {σ : L2.St} {H : Hp} {i : Nat}
theorem sq_set (P : V → Hp → Prop) (h : ∀ Q : VK, (∀ x H', P x H' → Q x H') → te σ H Q) (k : ∀ x H', P x H' → u D (σ.set i (some x)) H') : tSeq (tAsg te (gName i)) u D σ H := h _ k
theorem s1_set (P : V → Hp → Prop) (h : ∀ Q : VK, (∀ x H', P x H' → Q x H') → te σ H Q) (k : ∀ x H', P x H' → D.nx (σ.set i (some x)) H') : (tAsg te (gName i)) D σ H := h _ k
theorem sq_par {j : Nat} {ta : TA} (P : V → V → Hp → Prop) (h : ∀ Q : List V → Hp → Prop, (∀ x y H', P x y H' → Q [x, y] H') → ta σ H Q) (k : ∀ x y H', P x y H' → u D ((σ.set i (some x)).set j (some y)) H') : tSeq (tPar i j ta) u D σ H := h _ fun x y H' p => ⟨x, y, rfl, k x y H' p⟩
theorem sq_do (P : V → Hp → Prop) (h : ∀ Q : VK, (∀ x H', P x H' → Q x H') → te σ H Q) (k : ∀ x H', P x H' → u D σ H') : tSeq (tDrop te) u D σ H := h _ k
theorem sq_if (P : Bool → Hp → Prop) (h : ∀ Q : Bool → Hp → Prop, (∀ b H', P b H' → Q b H') → c σ H Q) (kt : ∀ H', P true H' → t1 { D with nx := u D } σ H') (kf : ∀ H', P false H' → t2 { D with nx := u D } σ H') : tSeq (tIfS c t1 t2) u D σ H :=
  h _ fun b H' p => by
    cases b with
    | true => rw [if_pos rfl]; exact kt H' p
    | false => rw [if_neg Bool.false_ne_true]; exact kf H' p
theorem sq_if1 (P : Bool → Hp → Prop) (h : ∀ Q : Bool → Hp → Prop, (∀ b H', P b H' → Q b H') → c σ H Q) (kt : ∀ H', P true H' → t1 { D with nx := u D } σ H') (kf : ∀ H', P false H' → u D σ H') : tSeq (tIfS c t1 tNext) u D σ H := sq_if P h kt kf
theorem s1_if (P : Bool → Hp → Prop) (h : ∀ Q : Bool → Hp → Prop, (∀ b H', P b H' → Q b H') → c σ H Q) (kt : ∀ H', P true H' → t1 D σ H') (kf : ∀ H', P false H' → t2 D σ H') : (tIfS c t1 t2) D σ H :=
  h _ fun b H' p => by
    cases b with
    | true => rw [if_pos rfl]; exact kt H' p
    | false => rw [if_neg Bool.false_ne_true]; exact kf H' p
theorem s1_ret (P : V → Hp → Prop) (h : ∀ Q : VK, (∀ x H', P x H' → Q x H') → te σ H Q) (k : ∀ x H', P x H' → D.rt x H') : tRet te D σ H := h _ k
end
/-! promises -/
def spSource (K : PySem.W.Frag) : Sp := fun vs H Q _ => ∃ (a : Addr) (ns : List Int) (i : Int), vs = [.ref a, .int i] ∧ SqL K H a (ns.map V.int) ∧ ns.length ≤ 1000 ∧ 0 ≤ i ∧ i ≤ 1000 ∧
  ∀ p H', H p = none → Same H H' → Src H' p 0 → Q (.ref p) H'
def spDraw : Sp := fun vs H Q _ => ∃ (a : Addr) (n : Nat) (m : Int), vs = [.ref a, .int m] ∧ Src H a n ∧ n ≤ 1000000000 ∧ 0 < m ∧ m ≤ 1000000000 ∧
  ∀ H' i, Keep a H H' → Src H' a (n + 1) → 0 ≤ i → i < m → Q (.int i) H'
def spOf (K : PySem.W.Frag) : Sp := fun vs H Q _ => ∃ (a b : Addr) (n : Nat) (xs : List V), vs = [.ref a, .ref b] ∧ Src H a n ∧ n ≤ 1000000000 ∧ b ≠ a ∧ SqL K H b xs ∧ xs ≠ [] ∧ xs.length ≤ 100000 ∧
  ∀ H' x, Keep a H H' → Src H' a (n + 1) → x ∈ xs → Q x H'
def spNumber : Sp := fun vs H Q _ => ∃ (a : Addr) (n : Nat), vs = [.ref a] ∧ Src H a n ∧ n ≤ 900000000 ∧
  ∀ H' i, Keep a H H' → Src H' a (n + 8) → Q (.int i) H'
structure TxtD (mg : Str → Option Value) : Prop where
  len : mg "len" = none
  abs : mg "abs" = none
  int : mg "int" = none
  range : mg "range" = none
abbrev FnP (K : PySem.W.Frag) (x : Str) (st : Stmt) (f : Addr) (fd : FuncData) : Prop := FunD K x x (defArgs st) (defBody st) (defScope st) [] [] f fd
section
variable {P : Program} {w : World} {K : PySem.W.Frag} {mg : Str → Option Value} {base : Heap}
theorem bool_ite {c : Prop} [Decidable c] {A B : Prop} (h1 : c → A) (h2 : ¬ c → B) : if decide c = true then A else B := by
  by_cases h : c
  · rw [decide_eq_true h, if_pos rfl]; exact h1 h
  · rw [decide_eq_false h, if_neg Bool.false_ne_true]; exact h2 h
theorem atI_get {α : Type} {xs : List α} {i : Int} (h0 : 0 ≤ i) (h1 : i < xs.length) : ∃ x, atI xs i = some x ∧ x ∈ xs := by
  have e : i.toNat < xs.length := by omega
  refine ⟨xs[i.toNat], ?_, List.getElem_mem e⟩
  unfold atI ixN
  rw [if_pos h0, if_pos h1]
  simp [e]
theorem fmod_src (x : Int) : 0 ≤ x.fmod 2305843009213693951 ∧ x.fmod 2305843009213693951 < 2305843009213693951 :=
  ⟨Int.fmod_nonneg_of_pos x (by decide), Int.fmod_lt_of_pos x (by decide)⟩

/-! a def of the top, called by its name -/
def DefIs (K : PySem.W.Frag) (mg : Str → Option Value) (x : Str) (st : Stmt) : Prop := ∃ f fd, mg x = some (.ref f) ∧ FnP K x st f fd
structure Cal (P : Program) (w : World) (K : PySem.W.Frag) (mg : Str → Option Value) (base : Heap) (CX : CXT) (x : Str) (k : Nat) (ps : List Str) (sp : Sp) : Prop where
  ex : ∃ f fd, mg x = some (.ref f) ∧ PySem.W.keepIn K (.ref f) = true ∧ FnOk P w K mg base CX k f fd ps sp ∧ Binds K fd ps []
end
section
variable {X : Cx} {x : Str} {p pos : Pos} {e : Expr} {es : List Expr} {t : TA} {k : Nat} {ps : List Str} {sp : Sp}
theorem pe_cal (c : Cal X.prog X.w X.K X.mg X.base CX0 x k ps sp) (hr : Room k X.A) (ha : PA X (e :: es) t) (hg : Gl X x := by rfl) (hdb : (x == ("__debug__" : Str)) = false := by decide)
    (he : starEach (e :: es) X.env = (false, eval e X.env) :: starEach es X.env := by rfl) (hpl : (backTo pos (starEach es X.env)).any (·.1) = false := by rfl) :
    PE X (.Call (.Name x p) (e :: es) [] pos) (tCall sp [] E0 t) := by
  obtain ⟨f, fd, hm, hk, F, b⟩ := c.ex
  exact pe_call F hr hg hm hk b .nil pass0 ha hdb he hpl
end
section
variable {P : Program} {w : World} {K : PySem.W.Frag} {mg : Str → Option Value} {base : Heap}
end
/-! words -/
def IsWord (z : Str) : Prop := 1 ≤ z.length ∧ z.length ≤ 8 ∧ ∀ c ∈ z.cps.toList, 97 ≤ c ∧ c ≤ 122
def abc : List Nat := [97, 98, 99, 100, 101, 102, 103, 104, 105, 106, 107, 108, 109, 110, 111, 112, 113, 114, 115, 116, 117, 118, 119, 120, 121, 122]
def sign (c : Nat) : Str := ⟨#[c]⟩
abbrev letters : Str := "abcdefghijklmnopqrstuvwxyz"
theorem letters_eq : letters = ⟨abc.toArray⟩ := by decide +kernel
theorem abc_le {c : Nat} (h : c ∈ abc) : 97 ≤ c ∧ c ≤ 122 := by
  have h2 : ∀ c ∈ abc, 97 ≤ c ∧ c ≤ 122 := by decide
  exact h2 c h
theorem tl_sign (c : Nat) : (sign c).cps.toList = [c] := rfl
theorem joinL_flat : ∀ l : List (List Nat), TL.joinL [] l = l.flatten
  | [] => rfl
  | [p] => by simp [TL.joinL]
  | p :: q :: r => by
    show p ++ ([] ++ TL.joinL [] (q :: r)) = _
    rw [joinL_flat (q :: r)]
    simp
theorem join_signs (e : Str) (he : e.cps = #[]) (cs : List Nat) : (Txt.join e (cs.map sign)).cps.toList = cs := by
  rw [TL.join_eq]
  have h : (Str.join e (cs.map sign)).cps.toList = TL.joinL e.cps.toList ((cs.map sign).map fun z => z.cps.toList) := TL.tl_join e (cs.map sign)
  rw [h, he]
  show TL.joinL [] _ = _
  rw [joinL_flat, List.map_map]
  clear h
  induction cs with
  | nil => rfl
  | cons c r ih =>
    rw [List.map_cons, List.flatten_cons, ih]
    rfl
theorem nodup_le : ∀ {l ts : List Str}, l.Nodup → (∀ x ∈ l, x ∈ ts) → l.length ≤ ts.length
  | [], _, _, _ => Nat.zero_le _
  | x :: l, ts, hn, hs => by
    have hx : x ∈ ts := hs x List.mem_cons_self
    have hn2 := List.nodup_cons.mp hn
    have ih := nodup_le (l := l) (ts := ts.erase x) hn2.2 fun y hy => by
      have ne : y ≠ x := fun e => hn2.1 (e ▸ hy)
      exact (List.mem_erase_of_ne ne).mpr (hs y (List.mem_cons_of_mem _ hy))
    rw [List.length_erase_of_mem hx] at ih
    have pos : 0 < ts.length := List.length_pos_of_mem hx
    simp only [List.length_cons]
    omega
def cand (w : Str) (c : Nat) : Str := cutS (sign c ++ w) none (some 8)
theorem tl_app (a b : Str) : (a ++ b).cps.toList = a.cps.toList ++ b.cps.toList := by
  rw [PySem.Str.cps_append, Array.toList_append]
theorem len_tl (a : Str) : a.length = a.cps.toList.length := by simp [Str.length]
theorem cand_tl (w : Str) (c : Nat) : (cand w c).cps.toList = (c :: w.cps.toList).take 8 := by
  unfold cand cutS
  have e : (sign c ++ w).cps.toList = c :: w.cps.toList := tl_app _ _
  have l : (sign c ++ w).length = w.cps.toList.length + 1 := by rw [len_tl, e]; rfl
  rw [e, l]
  have h8 : HT.sIx (w.cps.toList.length + 1) (w.cps.toList.length + 1) (some 8) = min 8 (w.cps.toList.length + 1) := HT.sIx_nat _ _ 8
  rw [h8]
  show (List.take (min 8 (w.cps.toList.length + 1) - 0) (List.drop 0 (c :: w.cps.toList))) = _
  rw [Nat.sub_zero, List.drop_zero]
  have : (c :: w.cps.toList).length = w.cps.toList.length + 1 := rfl
  rw [← this, ← List.take_eq_take_min]
theorem cand_word {w : Str} {c : Nat} (h : IsWord w) (hc : c ∈ abc) : IsWord (cand w c) := by
  have e := cand_tl w c
  obtain ⟨h1, h2, h3⟩ := h
  rw [len_tl] at h1 h2
  refine ⟨?_, ?_, fun d hd => ?_⟩
  · rw [len_tl, e]; simp
  · rw [len_tl, e]; simp; omega
  · rw [e] at hd
    rcases List.mem_cons.mp (List.mem_of_mem_take hd) with q | q
    · rw [q]; exact abc_le hc
    · exact h3 d q
theorem cand_inj {w : Str} {c d : Nat} (h : cand w c = cand w d) : c = d := by
  have e : (cand w c).cps.toList = (cand w d).cps.toList := by rw [h]
  rw [cand_tl, cand_tl] at e
  simpa using e
theorem free_some (w : Str) (ts : List Str) (h : ts.length ≤ 25) : abc.filter (fun c => !decide (cand w c ∈ ts)) ≠ [] := by
  intro e
  have ha : ∀ c ∈ abc, cand w c ∈ ts := fun c hc => by
    have := List.filter_eq_nil_iff.mp e c hc
    simpa using this
  have nd : (abc.map (cand w)).Nodup := by
    have h0 : abc.Nodup := by decide
    exact List.Pairwise.map _ (fun a b ne q => ne (cand_inj q)) h0
  have l := nodup_le nd (ts := ts) (fun x hx => by
    obtain ⟨c, hc, rfl⟩ := List.mem_map.mp hx
    exact ha c hc)
  rw [List.length_map] at l
  have : abc.length = 26 := rfl
  omega
theorem inV_str (w : Str) (ts : List Str) : inV (.str w) (ts.map V.str) = decide (w ∈ ts) := by
  unfold inV
  rw [List.any_map]
  apply Bool.eq_iff_iff.mpr
  simp only [List.any_eq_true, Function.comp, decide_eq_true_eq]
  constructor
  · rintro ⟨y, hy, e⟩
    have e2 : (y == w) = true := e
    exact (eq_of_beq e2) ▸ hy
  · intro h
    exact ⟨w, h, beq_self_eq_true w⟩
theorem flat_strs (ts : List Str) : (ts.map V.str).all flatV = true := by
  rw [List.all_map]
  exact List.all_eq_true.mpr fun _ _ => rfl
abbrev nWord : List Str := ["source", "taken", "letters", "word", "free", "turn", "letter"]
def spWord (K : PySem.W.Frag) : Sp := fun vs H Q _ => ∃ (a b : Addr) (n : Nat) (ts : List Str), vs = [.ref a, .ref b] ∧ Src H a n ∧ n ≤ 900000000 ∧ b ≠ a ∧ SqL K H b (ts.map V.str) ∧ ts.length ≤ 25 ∧
  ∀ H' w, Keep a H H' → Src H' a (n + 10) → IsWord w → w ∉ ts → Q (.str w) H'
section
variable {P : Program} {w : World} {K : PySem.W.Frag} {mg : Str → Option Value} {base : Heap}
theorem str_notmem {z : Str} {ts : List Str} {A B : Prop} (h1 : z ∉ ts → A) (h2 : z ∈ ts → B) : if (if true = true then !inV (.str z) (ts.map V.str) else inV (.str z) (ts.map V.str)) = true then A else B := by
  rw [if_pos rfl, inV_str]
  by_cases h : z ∈ ts
  · rw [decide_eq_true h, Bool.not_true, if_neg Bool.false_ne_true]; exact h2 h
  · rw [decide_eq_false h, Bool.not_false, if_pos rfl]; exact h1 h
theorem letters_cps : letters.cps = abc.toArray := by rw [letters_eq]
theorem abc_at {i : Int} (h0 : 0 ≤ i) (h1 : i < 26) : ∃ c, atI letters.cps.toList i = some c ∧ c ∈ abc := by
  rw [letters_cps]
  exact atI_get (xs := abc) h0 (by show i < 26; exact h1)
end
/-! isinstance of a caught error that has its own dict -/
def rIsED (K : PySem.W.Frag) (cls : Value) (d : Option Addr) (a : Addr) : List V → Hp → VK → Prop := fun xs H Q =>
  ∃ (D dd : Addr) (c : V) (cv : Value) (b : Bool) (fs : List (Str × V)), cls = .ref D ∧ d = some dd ∧ ExcC K D ∧ xs = [.ref a, c] ∧ (∀ u, RelV c u → u = cv) ∧ H dd = some (.xd fs) ∧ PySem.W.kitOne K (.ref D) cv = some b ∧ Q (.bl b) H
theorem call_isED {X : Cx} {a : Addr} {cls : Value} {d : Option Addr} {oe : Obj} {pn : List (Addr × Obj)} (hz : Zc cls d oe) (hf : ∃ vs, oe.data = .fields vs) :
    CallR (X.suite a ((a, oe) :: pn)) (.builtin "isinstance") (rIsED X.K cls d a) := by
  intro pins s σ H xs us Q I r h
  obtain ⟨D, dd, c, cv, b, fs, rfl, rfl, C, rfl, hcv, hdd, e, q⟩ := h
  obtain ⟨u1, u2, rfl, r1, r2⟩ := vals2 r
  obtain rfl : u1 = Value.ref a := r1
  obtain rfl := hcv _ r2
  have hp := (I.pin (a, oe) (List.mem_append_left _ List.mem_cons_self)).1
  obtain ⟨mA, hns, _⟩ := (show ObjOk X.prog X.w H s.heap dd (.xd fs) from I.hok dd _ hdd)
  obtain ⟨od, ho, _⟩ := lookIn_ns hns
  obtain ⟨vs, hv⟩ := hf
  have J : PySem.W.InstAt s.heap a oe D (some od) := ⟨hp, hz.1, by unfold PySem.W.notCls; rw [hv] <;> rfl, by rw [hz.2]; exact ho⟩
  have hc : (PySem.W.clsIn X.K D).isSome = true := by
    have z := C.hd
    unfold PySem.W.hasDictIn at z
    cases q : PySem.W.clsIn X.K D with
    | none => rw [q] at z; cases z
    | some y => rfl
  exact PySem.W.kia_one (PySem.W.kitx_exc hc C.hg C.hk C.hs C.ha C.hn C.ht C.hm) I.kIn J e (fun z => nomatch z) fun tk => ⟨.bl b, H, I.tok tk, rfl, q⟩
/-! f(k = v, ..), nothing by position, what it raises wished for at the caller's slots -/
def tCallKS (m : Nat) (sp : Sp) (gV : List V → List V → List V) (E : L2.St → XK) (tk : TA) : TE := fun σ H Q => tk σ H fun zs H2 => zs.length = m ∧ sp (gV [] zs) H2 Q (E σ)
section
variable {X : Cx} {CX : CXT} {k : Nat} {f : Addr} {fd : FuncData} {ps ks : List Str} {sp : Sp} {E : L2.St → XK} {x : Str} {p pos : Pos} {kws : List Keyword} {tk : TA} {g : List Value → List Value → List Value} {gV : List V → List V → List V}
theorem pe_callKS (F : FnOk X.prog X.w X.K X.mg X.base CX k f fd ps sp) (hr : Room k X.A) (hm : X.mg x = some (.ref f)) (hk : PySem.W.keepIn X.K (.ref f) = true) (hb : KBn X.K fd ps 0 ks g gV) (hx : ∀ σ, PassesAt CX X σ (E σ)) (hkw : PK X kws tk)
    (hg : Gl X x := by rfl) (hall : (backToKw pos (keywordEach kws X.env)).all (·.1.isSome) = true := by rfl) (hks : (backToKw pos (keywordEach kws X.env)).filterMap (·.1) = ks := by rfl) (hdb : (x == ("__debug__" : Str)) = false := by decide)
    (hpl : ((backTo pos (starEach [] X.env)).any (·.1) || (backToKw pos (keywordEach kws X.env)).any (·.1.isNone)) = false := by rfl) :
    PE X (.Call (.Name x p) [] kws pos) (tCallKS ks.length sp gV E tk) := by
  refine ⟨fun pins s σ H Q I h => wpAny_Call_Name_kw (ld_glob I hg hm ?_ hdb)⟩
  refine PySem.W.callWith_KW0 (h₀ := X.base) I.ok.mod.kin hk hall (thn (hkw.run pos pins s σ H _ I h) fun ws s2 ⟨zs, H2, I2, rz, l2, q2⟩ => ⟨I2.kIn, ?_⟩) hpl
  rw [hks]
  have r2 := hb.rel .nil rz
  have bt := hb.to s2 [] ws I2.kIn rfl (rz.length.symm.trans l2)
  refine wpAny_call (codeAny_mono (F.run X.A X.stack s2 H2 ⟨[], ks.zip ws⟩ (g [] ws) (gV [] zs) Q (E σ) hr I2.env0 bt r2 q2) fun r s' hq => ?_)
  match r, hq with
  | .error e, hq => exact hx σ pins H2 s2 e s' I2 hq
  | .ok (.ret u), hq => exact I2.after hq
  | .ok .next, hq => exact hq.elim
  | .ok .brk, hq => exact hq.elim
  | .ok .cont, hq => exact hq.elim
end
structure TxtP (mg : Str → Option Value) : Prop where
  isi : mg "isinstance" = none
  int : mg "int" = none
  bool : mg "bool" = none
  str : mg "str" = none
  list : mg "list" = none
  tuple : mg "tuple" = none
  dict : mg "dict" = none
  len : mg "len" = none
  all : mg "all" = none
  longest : ∃ t, mg "LONGEST_WORD" = some (.int 8 t)
/-- a value of a built-in type t -/
def IsTy (K : PySem.W.Frag) (H : Hp) (v : V) (t : String) : Prop := TyX K H v (.type t)
def NotTy (K : PySem.W.Frag) (H : Hp) (v : V) (c : String) : Prop := ∃ t, TyX K H v (.type t) ∧ kitB t c = some false
def isWordB (z : Str) : Bool := decide (1 ≤ z.length) && (decide (z.length ≤ 8) && z.cps.toList.all fun c => decide (97 ≤ c) && decide (c ≤ 122))
theorem isWordB_iff (z : Str) : isWordB z = true ↔ IsWord z := by
  unfold isWordB IsWord
  simp only [Bool.and_eq_true, decide_eq_true_eq, List.all_eq_true]
theorem isWordB_true {z : Str} (h : IsWord z) : isWordB z = true := (isWordB_iff z).mpr h
theorem isWordB_false {z : Str} (h : ¬ IsWord z) : isWordB z = false := by
  cases e : isWordB z with
  | false => rfl
  | true => exact absurd ((isWordB_iff z).mp e) h
def spIsInteger (K : PySem.W.Frag) : Sp := fun vs H Q _ => ∃ (v : V) (b : Bool), vs = [v] ∧
  ((b = true ∧ ∃ i, v = .int i) ∨ (b = false ∧ ((∃ c, v = .bl c) ∨ NotTy K H v "int"))) ∧ Q (.bl b) H
def spIsWord (K : PySem.W.Frag) : Sp := fun vs H Q _ => ∃ (v : V) (b : Bool), vs = [v] ∧
  ((∃ z, v = .str z ∧ z.length ≤ 1000 ∧ b = isWordB z) ∨ (b = false ∧ NotTy K H v "str")) ∧ ∀ H', Same H H' → Q (.bl b) H'
def spCopied (K : PySem.W.Frag) : Sp := fun vs H Q _ => ∃ (v : V), vs = [v] ∧ NotTy K H v "list" ∧ NotTy K H v "tuple" ∧ NotTy K H v "dict" ∧ Q v H
section
variable {P : Program} {w : World} {K : PySem.W.Frag} {mg : Str → Option Value} {base : Heap}
theorem ty_int {H : Hp} (i : Int) : TyX K H (.int i) (.type "int") := .base (.int i)
theorem ty_bl {H : Hp} (i : Bool) : TyX K H (.bl i) (.type "bool") := .base (.bl i)
theorem ty_str {H : Hp} (i : Str) : TyX K H (.str i) (.type "str") := .base (.str i)
theorem ty_non {H : Hp} : TyX K H .non (.type "NoneType") := .base .non
theorem lt_sign (c d : Nat) : decide (([c] : List Nat) < [d]) = decide (c < d) := by
  have : (([c] : List Nat) < [d]) ↔ c < d := by
    rw [List.cons_lt_cons_iff]
    simp
  simp only [this]
end
theorem exc_end {H : Hp} {a C d : Addr} {fs : List (Str × V)} (na : H a = none) (nd : upd H a (exo a C none) d = none) (da : d ≠ a) :
    H d = none ∧ Same H (upd (del (upd (upd (upd H a (exo a C none)) d (exd d fs)) a (exo a C (some d))) a) d (.xd fs)) := by
  have n2 : H d = none := by rw [upd_ne da] at nd; exact nd
  refine ⟨n2, fun b o h => ?_⟩
  rw [upd_ne (ne_of_none h n2), del_ne (ne_of_none h na), upd_ne (ne_of_none h na), upd_ne (ne_of_none h n2), upd_ne (ne_of_none h na)]
  exact h
theorem Same.new {H H1 : Hp} {p : Addr} {o : HO} (s : Same H H1) (h : H1 p = none) : Same H (upd H1 p o) := fun b u e => by
  rw [upd_ne (ne_of_none (s b u e) h)]
  exact s b u e
section
variable {P : Program} {w : World} {K : PySem.W.Frag} {mg : Str → Option Value} {base : Heap}
theorem nt_str {H : Hp} (z : Str) : NotTy K H (.str z) "list" ∧ NotTy K H (.str z) "tuple" ∧ NotTy K H (.str z) "dict" :=
  ⟨⟨_, ty_str z, by decide +kernel⟩, ⟨_, ty_str z, by decide +kernel⟩, ⟨_, ty_str z, by decide +kernel⟩⟩
theorem NotTy.same {H H1 : Hp} {v : V} {c : String} (s : Same H H1) (h : NotTy K H v c) : NotTy K H1 v c := by
  obtain ⟨t, ht, k⟩ := h
  refine ⟨t, ?_, k⟩
  cases ht with
  | base b => cases b with
    | non => exact .base .non
    | bl y => exact .base (.bl y)
    | int i => exact .base (.int i)
    | str y => exact .base (.str y)
    | flt y => exact .base (.flt y)
    | lst e => exact .base (.lst (s _ _ e))
    | frz e => exact .base (.frz (s _ _ e))
    | tup e => exact .base (.tup (s _ _ e))
    | dK e => exact .base (.dK (s _ _ e))
    | dT e => exact .base (.dT (s _ _ e))
  | byt b => exact .byt b
  | set e => exact .set (s _ _ e)
  | kList e c => exact .kList e c
  | kTuple e c => exact .kTuple e c
  | kDict e c => exact .kDict e c
  | fTuple e => exact .fTuple (s _ _ e)
  | fDict e => exact .fDict (s _ _ e)
theorem not_nt_str {H : Hp} {z : Str} (h : NotTy K H (.str z) "str") : False := by
  obtain ⟨t, ht, k⟩ := h
  generalize hv : V.str z = v at ht
  generalize hu : Value.type t = u at ht
  cases ht with
  | base b =>
    cases b with
    | str y =>
      cases hu
      exact absurd k (by decide +kernel)
    | _ => cases hv
  | _ => cases hv
end
def oddStrs : List Str := ["", "abcdefghi", "A", "aB", "a1", "a b", " a", "a_", "-"]
inductive Odd (a : Addr) (H : Hp) : V → Prop where
  | str {z : Str} (h : z ∈ oddStrs) : Odd a H (.str z)
  | non : Odd a H .non
  | int (i : Int) : Odd a H (.int i)
  | bl (b : Bool) : Odd a H (.bl b)
  | tup {p : Addr} {xs : List V} (n : p ≠ a) (h : H p = some (.tup xs)) (e : xs = [] ∨ xs = [.str "a"]) : Odd a H (.ref p)
  | lst {p : Addr} {xs : List V} (n : p ≠ a) (h : H p = some (.lst xs)) (e : xs = [] ∨ xs = [.str "a"]) : Odd a H (.ref p)
  | dic {p : Addr} (n : p ≠ a) (h : H p = some (.dK [(.inr "a", .str "b")])) : Odd a H (.ref p)
theorem Odd.keep {a : Addr} {H H' : Hp} {v : V} (k : Keep a H H') (h : Odd a H v) : Odd a H' v := by
  cases h with
  | str h => exact .str h
  | non => exact .non
  | int i => exact .int i
  | bl b => exact .bl b
  | tup n h e => exact .tup n (k _ _ n h) e
  | lst n h e => exact .lst n (k _ _ n h) e
  | dic n h => exact .dic n (k _ _ n h)
theorem odd_notword {K : PySem.W.Frag} {a : Addr} {H : Hp} {v : V} (h : Odd a H v) : (∃ z, v = .str z ∧ z.length ≤ 1000 ∧ ¬ IsWord z) ∨ NotTy K H v "str" := by
  cases h with
  | @str z h =>
    have e : ∀ z ∈ oddStrs, (decide (z.length ≤ 1000) && !isWordB z) = true := by decide +kernel
    have e2 := e z h
    simp only [Bool.and_eq_true, decide_eq_true_eq, Bool.not_eq_true'] at e2
    exact .inl ⟨z, rfl, e2.1, fun hw => by rw [isWordB_true hw] at e2; cases e2.2⟩
  | non => exact .inr ⟨_, ty_non, by decide +kernel⟩
  | int i => exact .inr ⟨_, ty_int i, by decide +kernel⟩
  | bl b => exact .inr ⟨_, ty_bl b, by decide +kernel⟩
  | tup n h e => exact .inr ⟨_, .base (.tup h), by decide +kernel⟩
  | lst n h e => exact .inr ⟨_, .base (.lst h), by decide +kernel⟩
  | dic n h => exact .inr ⟨_, .base (.dK h), by decide +kernel⟩
theorem same_new2 {H : Hp} {p : Addr} {o u : HO} (n : H p = none) : Same H (upd (upd H p o) p u) := fun b x h => by
  rw [upd_ne (ne_of_none h n), upd_ne (ne_of_none h n)]
  exact h
def spOdd : Sp := fun vs H Q _ => ∃ (a : Addr) (n : Nat), vs = [.ref a] ∧ Src H a n ∧ n ≤ 900000000 ∧ ∀ H' v, Keep a H H' → Src H' a (n + 1) → Odd a H' v → Q v H'
theorem Src.same {H H1 : Hp} {a : Addr} {n : Nat} (s : Same H H1) (h : Src H a n) : Src H1 a n := by
  obtain ⟨d, x, t, h1, h2⟩ := h
  exact ⟨d, x, t, s _ _ h1, h2⟩
section
variable {P : Program} {w : World} {K : PySem.W.Frag} {mg : Str → Option Value} {base : Heap}
end
theorem kb_of {K : PySem.W.Frag} {x qual : Str} {params : Arguments} {body : List Stmt} {scope : Scope} {kws : List (Str × V)} {f : Addr} {fd : FuncData} {ps : List Str} (F : FunD K x qual params body scope [] kws f fd)
    (h : ∀ (kV doc pm : Value) (an : Option Addr) (cdv ct : Value) (ws : List Value), ws.length = ps.length → bindArgs (PySem.W.fnOf x qual params body scope .none kV doc pm an cdv ct) ⟨[], ps.zip ws⟩ = pure (ps.zip ws)) : KBn K fd ps 0 ps (fun _ ws => ws) (fun _ zs => zs) := by
  obtain ⟨oc, od, dV, kV, doc, pm, an, cdv, ct, osl, rfl, lk, hcd, hD, hK⟩ := F.ex
  rcases hD with ⟨_, rfl⟩ | ⟨e, _⟩
  · exact ⟨fun s us ws _ l1 l2 => by
      obtain rfl : us = [] := List.length_eq_zero_iff.mp l1
      exact .of_eq (h kV doc pm an cdv ct ws l2), fun _ r => r⟩
  · exact absurd rfl e
end Lw
namespace Hk
open PySem PySem.Spec PyProof.Rows L2
/-! a Hook: facts, defs, tables, one Bool more -/
abbrev Al : Type := He.AlT × Bool
def obG (n : Nat) (fa : List He.Fa) (fn : List He.DefD) (ts : List He.Tab) (own : PySem.W.Frag → Bool) (g : Addr → Option Obj) : Al := (He.obsTG n fa fn ts g, own (He.frG g (He.asD g n)))
def Says (fa : List He.Fa) (fn : List He.DefD) (ts : List He.Tab) (own : PySem.W.Frag → Bool) (w : World) (K : PySem.W.Frag) : Prop := He.SaysT fa fn ts w K ∧ own K = true
def hook (n : Nat) (fa : List He.Fa) (fn : List He.DefD) (ts : List He.Tab) (own : PySem.W.Frag → Bool) : PySem.W.Hook where
  α := Al
  obs := fun s => obG n fa fn ts own s.heap.get?
  val := fun w => (He.valT fn ts w, true)
  says := fun w h => ∃ K : PySem.W.Frag, K.In h ∧ Says fa fn ts own w K
  of := fun _ _ e => ⟨_, He.frG_in, congrArg Prod.fst e, congrArg Prod.snd e⟩
  keeps := fun _ _ _ ⟨K, hK, c⟩ k => ⟨K, PySem.W.Frag.In.keeps hK k, c⟩
theorem obG_eq {n : Nat} {fa : List He.Fa} {fn : List He.DefD} {ts : List He.Tab} {own : PySem.W.Frag → Bool} {g : Addr → Option Obj} {s : Shared} (h : ∀ a, g a = s.heap.get? a) : obG n fa fn ts own g = (hook n fa fn ts own).obs s := by
  rw [show g = s.heap.get? from funext h] <;> rfl
/-- an own error class over ValueError with an own __init__ -/
def oexB (K : PySem.W.Frag) (C : Addr) : Bool := match K.lookup C with
  | some ⟨.type t, _, .cls ⟨_, _, .ref c :: bm, _, _, true, _, _, _, _, false⟩, sl⟩ => (decide (t = "type") && (decide (c = C) && PySem.HandSPX.refsVE bm)) && (match sl.toList with
    | [_, _, _, _, some (.builtin z), _] => decide (z = "ValueError.__new__")
    | _ => false)
  | _ => false
def clsB (K : PySem.W.Frag) (C : Addr) : Bool := oexB K C && (He.eqO (PySem.W.findIn K (.ref C) "__setattr__") (some (some (.builtin "object.__setattr__"))) && (decide (PySem.W.subIn K (.ref C) (.type "BaseException") = some true) &&
  (decide (PySem.W.typeIn K (.ref C) = some (.type "type")) && PySem.W.keepIn K (.ref C))))
theorem oexB_ok {K : PySem.W.Frag} {C : Addr} (h : clsB K C = true) : OexC K C := by
  obtain ⟨h1, h⟩ := He.ba h
  obtain ⟨h2, h⟩ := He.ba h
  obtain ⟨h3, h⟩ := He.ba h
  obtain ⟨h4, h5⟩ := He.ba h
  refine ⟨?_, He.eqO_ok h2, of_decide_eq_true h3, of_decide_eq_true h4, h5⟩
  unfold oexB at h1
  split at h1
  · rename_i t dd nm bs c bm N qn sn sub ab col sl e
    obtain ⟨q1, q2⟩ := He.ba h1
    obtain ⟨q3, q4⟩ := He.ba q1
    obtain ⟨q5, q6⟩ := He.ba q4
    have e1 := of_decide_eq_true q3
    have e2 := of_decide_eq_true q5
    subst e1 e2
    split at q2
    · rename_i k0 k1 k2 k3 z k5 es
      have e3 := of_decide_eq_true q2
      subst e3
      obtain ⟨sl⟩ := sl
      simp only at es
      subst es
      exact ⟨nm, qn, N, bs, bm, sn, sub, ab, col, dd, k0, k1, k2, k3, k5, e, q6⟩
    · cases q2
  · cases h1
/-- isinstance asks its instances rightly -/
def excB (K : PySem.W.Frag) (D : Addr) : Bool := L2.xfB K D && (He.eqO (PySem.W.findIn K (.ref D) "__class__") (some (some (.builtin "object.__class__"))) && (decide (PySem.W.mroIn K D (.type "object") = some true) && getB K))
where getB (K : PySem.W.Frag) : Bool := decide (PySem.W.specialIn K (.builtin "object.__class__") "__get__" = some (some (.builtin "getset_descriptor.__get__"))) && decide (PySem.W.takesIn K (.builtin "object.__class__") = some true)
theorem excB_ok {K : PySem.W.Frag} {D : Addr} (h : excB K D = true) : ExcC K D ∧ XfC K D := by
  obtain ⟨h1, h⟩ := He.ba h
  obtain ⟨h2, h⟩ := He.ba h
  obtain ⟨h3, h⟩ := He.ba h
  obtain ⟨h4, h5⟩ := He.ba h
  have x := L2.xfB_ok h1
  exact ⟨⟨x.ga, x.gg, x.exC, x.hdC, He.eqO_ok h2, of_decide_eq_true h4, of_decide_eq_true h5, of_decide_eq_true h3⟩, x⟩
/-- isinstance of an own class's instances -/
def insB (K : PySem.W.Frag) (D : Addr) : Bool := He.eqO (PySem.W.findIn K (.ref D) "__class__") (some (some (.builtin "object.__class__"))) && (decide (PySem.W.mroIn K D (.type "object") = some true) && excB.getB K)
end Hk

set_option Elab.async false
set_option linter.all false
set_option maxRecDepth 100000
set_option maxHeartbeats 4000000
namespace Lw
open PySem PySem.Spec PyProof.Rows L2
/-! an own error with an own __init__, made: its context is None -/
section
variable {X : Cx} {CX : CXT} {x : Str} {e : Expr} {es : List Expr} {ta : TA} {p pos : Pos} {C fI : Addr} {k : Nat} {fd : FuncData} {ps : List Str} {sp : Sp} {ds : List Value} {dvs : List V}
theorem pmk_oexN (T : OexC X.K C) (iC : PySem.W.findIn X.K (.ref C) "__init__" = some (some (.ref fI))) (tI : PySem.W.typeIn X.K (.ref fI) = some (.type "function")) (F1 : FnOk X.prog X.w X.K X.mg X.base CX k fI fd ps sp) (hr : Room (k + 1) X.A) (hb : Binds X.K fd ps ds)
    (hd : Vals dvs ds) (hx : Passes CX X (fun _ _ _ => False)) (hm : X.mg x = some (.ref C)) (ha : PA X (e :: es) ta) (hg : Gl X x := by rfl) (hdb : (x == ("__debug__" : Str)) = false := by decide) (he : starEach (e :: es) X.env = (false, eval e X.env) :: starEach es X.env := by rfl)
    (hpl : (backTo pos (starEach es X.env)).any (·.1) = false := by rfl) : L2N.PMk X (.Call (.Name x p) (e :: es) [] pos) (tMkO C sp dvs ta) := fun pins s σ H Q I h => by
  obtain ⟨nm, qn, N, bs, bm, sn, sub, ab, col, dd, k0, k1, k2, k3, k5, hC, hbm⟩ := T.cls
  refine wpAny_Call_Name_kw (ld_glob I hg hm (PySem.W.callWith_K (h₀ := X.base) I.ok.mod.kin T.kC (thn (ha.run pos pins s σ H _ I h) fun us st ⟨vs, H1, J, rv, hz, q1⟩ => ⟨J.kIn, ?_⟩) he hpl) hdb)
  show wpAny _ _ (call (.ref C) us) _ _ _
  obtain ⟨hp, g, dr, tk, os⟩ := st
  have up : hp.objs.size ≤ hp.objs.size + 1 := by omega
  have spec := q1 (hp.objs.size + 1) (J.hok.fresh up)
  have stay : ∀ b o, hp.get? b = some o → ((hp.push (PySem.W.kdv_tup us)).push (PySem.HandSPX.excO C hp.objs.size)).get? b = some o := fun b o z => Heap.get?_push_of_some _ (Heap.get?_push_of_some _ z)
  have there : ((hp.push (PySem.W.kdv_tup us)).push (PySem.HandSPX.excO C hp.objs.size)).get? (hp.objs.size + 1) = some (PySem.HandSPX.excO C hp.objs.size) := by heap_get
  have J2 := J.laid (t' := tk) (a := hp.objs.size + 1) (o := exo (hp.objs.size + 1) C none) (h' := (hp.push (PySem.W.kdv_tup us)).push (PySem.HandSPX.excO C hp.objs.size)) stay up (exo_ok there)
  have rel : Vals (V.ref (hp.objs.size + 1) :: (vs ++ dvs)) (Value.ref (hp.objs.size + 1) :: (us ++ ds)) := .cons rfl (rv.append hd)
  have len : (Value.ref (hp.objs.size + 1) :: us ++ ds).length = ps.length := (F1.len _ _ _ _ spec ▸ rel.length).symm
  have line : us.length ≤ sizeLine := by rw [← Paired.length rv, sizeLine_eq]; omega
  refine wpAny_call (PySem.HandSPX.call_own F.excBase_ValueError (fun Y => PySem.HandSPX.refsVE_contains Y bm hbm) (J.kIn _ _ hC) (PySem.W.looks_findIn J.kIn iC) (fun self => PySem.W.bind_fn J.kIn self tI) line
    (codeAny_mono (F1.run _ X.stack _ _ ⟨Value.ref (hp.objs.size + 1) :: us, []⟩ (Value.ref (hp.objs.size + 1) :: (us ++ ds)) _ _ (fun _ _ _ => False) (hr.make C us []) (J2.env0.make C us []) (hb _ (Value.ref (hp.objs.size + 1) :: us) J2.kIn len) rel spec) fun r s' back => ?_))
  match r, back with
  | .error er, back => exact hx pins σ _ _ er s' J2 back
  | .ok .next, back => exact back.elim
  | .ok .brk, back => exact back.elim
  | .ok .cont, back => exact back.elim
  | .ok (.ret u), back =>
    obtain ⟨v, H2, os2, bare2, un2, hok2, rv2, ev, d, fs, ea, ed, hd1, q2⟩ := back
    subst ev
    obtain ⟨h2, g2, d2, t2, os'⟩ := s'
    obtain ⟨t0, G, JG, kG, ge, hoe, na⟩ := mk_end0 (d2 := d2) (t2 := t2) J up stay un2 hok2 os2 bare2 ea ed hd1
    exact ⟨rv2, _, _, _, ⟨G, g2, d2, t2, os'⟩, _, .ref C, some d, rfl, JG, kG, ge, hoe, ⟨rfl, rfl, fun z ez => by cases ez; rfl⟩, rfl, rfl, na, rfl, bare2, raises_own T.exC T.tyC, q2⟩
/-! C(e, ..), C what a local name holds -/
def tMakeL (i : Nat) (C : Addr) (sp : Sp) (E : XK) (t : TA) : TE := fun σ H Q => σ[i]? = some (some (.ref C)) ∧ tMake C sp [] E t σ H Q
theorem pe_makeL {E : XK} {t : TA} {i f : Nat} (M : Mk X.K C f) (F : FnOk X.prog X.w X.K X.mg X.base CX k f fd ps sp) (hr : Room (k + 1) X.A) (hN : X.N[i]? = some x) (hv : Vis X.env.scope x) (hb : Binds X.K fd ps []) (hx : Passes CX X E) (ha : PA X (e :: es) t)
    (hdb : (x == ("__debug__" : Str)) = false := by decide) (hcd : (x == ("__classdict__" : Str)) = false := by decide) (he : starEach (e :: es) X.env = (false, eval e X.env) :: starEach es X.env := by rfl) (hpl : (backTo pos (starEach es X.env)).any (·.1) = false := by rfl) :
    PE X (.Call (.Name x p) (e :: es) [] pos) (tMakeL i C sp E t) := ⟨fun pins s σ H Q I ⟨hs, ht⟩ => by
  refine wpAny_Call_Name_kw (thn ((pe_var (pos := p) hN hv hdb hcd).run pins s σ H (fun v H1 => v = .ref C ∧ H1 = H) I ⟨.ref C, hs, rfl, rfl⟩) fun u s1 ⟨v, H1, J, r1, e1, e2⟩ => ?_)
  subst e1 e2
  obtain rfl : u = Value.ref C := r1
  exact PySem.W.callWith_K (h₀ := X.base) J.ok.mod.kin M.kp (thn (ha.run pos pins s1 σ H1 _ J ht) fun us s2 ⟨vs, H2, J2, r, q⟩ => ⟨J2.kIn, run_make M F hr hb .nil hx J2 r q⟩) he hpl⟩
/-! what a try's body lets out, whatever its slots are -/
def WL (X : Cx) (W : WX) : XK := fun cls d H => ∀ σ : L2.St, σ.length = X.N.length → W cls d σ H
theorem passL {W : WX} (tk : L2N.Takes X W) : Passes (L2N.CX X.prog X.w) X (WL X W) := fun pins σ H s u s' I c => by
  obtain ⟨a, B, H', cls, d, hu, fl, hok, ub, na, os, ag, hE⟩ := c
  exact tk u s' (L2N.XE.of_call (W := W) (E := fun c d H => W c d σ H) I (fun _ _ _ z => z) ⟨a, B, H', cls, d, hu, fl, hok, ub, na, os, ag, hE σ I.len⟩)
end
/-! a def called while an error is handled -/
theorem okH {CX : CXT} {P : Program} {w : World} {K : PySem.W.Frag} {mg : Str → Option Value} {base : Heap} {k : Nat} {x qual : Str} {params : Arguments} {bd : List Stmt} {scope : Scope} {dvs : List V} {kws : List (Str × V)} {f : Addr} {fd : FuncData} {N ps : List Str} {sp : Sp}
    (F : FunD K x qual params bd scope dvs kws f fd) (S : FnScope N ps scope) (len : ∀ vs H Q E, sp vs H Q E → vs.length = ps.length)
    (hb : ∀ (cdv : Value) (A : Around) (outer : List Env) (s : Shared) (H : Hp) (vs : List V) (Q : VK) (E : XK) (p : Addr × Obj), L2H.Hot1 A p → L2H.RoomH k (A.deeper (envOfC qual scope s.heap.objs.size f cdv)) → sp vs H Q E →
      ∃ t, PSs (L2H.cxH CX P w K mg base N qual scope f cdv A outer s H E p) bd t ∧ t { nx := fun _ H' => Q .non H', rt := Q } (start N vs) H) : L2H.FnH P w K mg base CX (k + 1) f fd ps sp := by
  obtain ⟨oc, od, dV, kV, doc, pm, an, cdv, ct, osl, rfl, lk, hcd, _, _⟩ := F.ex
  exact L2H.fn_ofH lk hcd S len fun A outer s H vs Q E p h1 h2 h3 => hb cdv A outer s H vs Q E p h1 h2 h3
end Lw

set_option Elab.async false
set_option linter.all false
set_option maxRecDepth 100000
set_option maxHeartbeats 4000000
namespace Lg
open PySem PySem.Spec PyProof.Rows L2
/-! promises of defs that are called where no guard of repr stands -/
structure FnG (P : Program) (w : World) (K : PySem.W.Frag) (mg : Str → Option Value) (base : Heap) (X0 : CXT) (k : Nat) (f : Addr) (fd : FuncData) (ps : List Str) (sp : Sp) : Prop where
  few : ∀ vs H Q E, sp vs H Q E → vs.length = ps.length
  goes : ∀ (A : Around) (fs : List Env) (s : Shared) (H : Hp) (ar : Args) (us : List Value) (vs : List V) (Q : VK) (E : XK), A.guards = some [] → Room k A → Env0 P w K mg base A fs s H → BindsTo s fd ar (ps.zip us) →
    Vals vs us → sp vs H Q E → codeAny (model P w) A (.call (.ref f) ar) (CR X0 fs P w H s Q E) s
section
variable {P : Program} {w : World} {K : PySem.W.Frag} {mg : Str → Option Value} {base : Heap} {X0 : CXT} {k : Nat} {x qual : Str} {params : Arguments} {bd : List Stmt} {scope : Scope} {dvs : List V} {kws : List (Str × V)} {f : Addr} {fd : FuncData} {N ps : List Str} {sp : Sp}
theorem FnG.of (F : FnOk P w K mg base X0 k f fd ps sp) : FnG P w K mg base X0 k f fd ps sp := ⟨F.len, fun A fs s H ar us vs Q E _ => F.run A fs s H ar us vs Q E⟩
/-- such a def's body -/
theorem okG (F : FunD K x qual params bd scope dvs kws f fd) (S : FnScope N ps scope) (few : ∀ vs H Q E, sp vs H Q E → vs.length = ps.length)
    (does : ∀ (cd : Value) (A : Around) (fs : List Env) (s : Shared) (H : Hp) (vs : List V) (Q : VK) (E : XK), (A.deeper (envOfC qual scope s.heap.objs.size f cd)).guards = some [] → Room k (A.deeper (envOfC qual scope s.heap.objs.size f cd)) → sp vs H Q E →
      ∃ t, PSs (cxOf X0 P w K mg base N qual scope f cd A fs s H E) bd t ∧ t { nx := fun _ G => Q .non G, rt := Q } (start N vs) H) : FnG P w K mg base X0 (k + 1) f fd ps sp := by
  obtain ⟨oc, od, dV, kV, doc, pm, an, cd, ct, sl, rfl, here, code, _, _⟩ := F.ex
  constructor
  · exact few
  intro A fs s H ar us vs Q E g room e0 bt rel pr
  have inK : K.In s.heap := e0.mod.kin.keeps fun b o q => (e0.bs b o q).1
  have free : s.heap.NoLimit := e0.mod.nolimit.keeps fun b o q => (e0.bs b o q).1
  have kinds : ∀ y ∈ ps.zip us, scope.names.lookup y.1 = some .local ∨ (scope.names.lookup y.1 = some .cell ∧ ((cellsFrom (s.heap.objs.size + 1) scope.names []).lookup y.1).isSome = true) := by
    rintro ⟨n, v⟩ hy
    have hn := S.par n (List.of_mem_zip hy).1
    exact hn.imp id fun q => ⟨q, PySem.W.cellsFrom_some _ _ _ (.inl q)⟩
  refine codeAny_call_function room.depth (inK _ _ here) rfl S.co S.gen rfl (PySem.W.codeRec_of inK code) (bt _ _ _ _ (wpAny_newFunctionEnv_cells S.kind kinds ?_))
  intro env he s1 st
  cases he
  refine ⟨free.keeps st.toInCall.keep, codeAny_func ?_⟩
  obtain ⟨t, ht, go⟩ := does cd A fs s H vs Q E g (room.deeper _) pr
  have I : Inv (cxOf X0 P w K mg base N qual scope f cd A fs s H E) [] (start N vs) H s1 := inv_start S room.hd e0 (few _ _ _ _ pr) rel st
  have out : ∀ {σ : L2.St} {G : Hp} {v : V} {u : Value} {s2 : Shared}, Inv (cxOf X0 P w K mg base N qual scope f cd A fs s H E) [] σ G s2 → RelV v u → Q v G → CE fs P w H s Q u s2 := by
    intro σ G v u s2 J r q
    exact ⟨v, G, J.os, J.bare, J.base, J.hok, r, q⟩
  apply wpAny_mono (ht.run [] s1 (start N vs) H _ I go)
  · intro fl s2 z
    match fl, z with
    | .ret u, z => obtain ⟨v, σ, G, J, r, q⟩ := z; exact out J r q
    | .next, z => obtain ⟨σ, G, J, q⟩ := z; exact out (u := Value.none) J (show RelV V.non Value.none from rfl) q
    | .brk, z => obtain ⟨_, _, _, q⟩ := z; exact q.elim
    | .cont, z => obtain ⟨_, _, _, q⟩ := z; exact q.elim
  · exact fun _ _ z => z
end
/-! calls -/
structure CalG (P : Program) (w : World) (K : PySem.W.Frag) (mg : Str → Option Value) (base : Heap) (X0 : CXT) (x : Str) (k : Nat) (ps : List Str) (sp : Sp) : Prop where
  ex : ∃ f fd, mg x = some (.ref f) ∧ PySem.W.keepIn K (.ref f) = true ∧ FnG P w K mg base X0 k f fd ps sp ∧ Binds K fd ps []
section
variable {X : Cx} {x : Str} {p pos : Pos} {e : Expr} {es : List Expr} {t : TA} {k : Nat} {ps : List Str} {sp : Sp}
theorem pe_calG (c : CalG X.prog X.w X.K X.mg X.base CX0 x k ps sp) (gd : X.A.guards = some []) (hr : Room k X.A) (ha : PA X (e :: es) t) (hg : Gl X x := by rfl) (hdb : (x == ("__debug__" : Str)) = false := by decide)
    (he : starEach (e :: es) X.env = (false, eval e X.env) :: starEach es X.env := by rfl) (hpl : (backTo pos (starEach es X.env)).any (·.1) = false := by rfl) :
    PE X (.Call (.Name x p) (e :: es) [] pos) (tCall sp [] E0 t) := by
  obtain ⟨f, fd, hm, hk, F, b⟩ := c.ex
  constructor
  intro pins s σ H Q I h
  refine wpAny_Call_Name_kw (ld_glob I hg hm (PySem.W.callWith_K (h₀ := X.base) I.ok.mod.kin hk (thn (ha.run pos pins s σ H _ I h) ?_) he hpl) hdb)
  rintro us s1 ⟨vs, H1, I1, r, q⟩
  rw [List.append_nil] at q
  have n1 : us.length = ps.length := by rw [← r.length]; exact F.few _ _ _ _ q
  have b1 := b s1 us I1.kIn (by rw [List.append_nil]; exact n1)
  rw [List.append_nil] at b1
  refine ⟨I1.kIn, wpAny_call (codeAny_mono (F.goes X.A X.stack s1 H1 ⟨us, []⟩ us vs Q E0 gd hr I1.env0 b1 r q) ?_)⟩
  intro rr s2 z
  match rr, z with
  | .error e, z => exact z.elim
  | .ok (.ret u), z => exact I1.after z
  | .ok .next, z => exact z.elim
  | .ok .brk, z => exact z.elim
  | .ok .cont, z => exact z.elim
end
end Lg

set_option Elab.async false
set_option linter.all false
set_option maxRecDepth 100000
set_option maxHeartbeats 4000000
namespace Lg
open PySem PySem.Spec PyProof.Rows L2
/-- what a law's call comes to -/
abbrev Yes (s₁ : Shared) : Result → Shared → Prop := fun r s' => r = .ok (.ret (.bool true)) ∧ OldK s₁.heap s'.heap ∧ s'.os = s₁.os ∧ AllBare s'.gens
section
variable {P : Program} {w : World} {K : PySem.W.Frag} {mg mb : Str → Option Value} {X0 : CXT} {k : Nat} {fa a : Addr} {fd : FuncData} {x : Str} {sp : Sp} {s₁ : Shared} {vs : List Value} {ns : List Int}
/-- from a heap in which at most the script is told -/
theorem law_from (inK : K.In s₁.heap) (gl : s₁.heap.Ns mainGlobals mg) (bl : s₁.heap.Ns builtinsNs mb) (same : ∀ x : Str, x ≠ "__name__" → mb x = bootBuiltins x) (free : s₁.heap.NoLimit) (none_ : s₁.gens = #[])
    (script : s₁.heap.get? a = some { cls := .type "list", data := .seq vs.toArray }) (room : Room k callerA) (F : ∀ B : Heap, K.In B → B.Ns mainGlobals mg → FnG P w K mg B X0 k fa fd [x] sp)
    (bt : ∀ (s : Shared) (u : Value), BindsTo s fd ⟨[u], []⟩ [(x, u)]) (no : ∀ H e s', X0 [] H s₁ (fun _ _ _ => False) e s' → False) (H : Hp) (only : Only H) (pr : sp [.ref a] H (fun v _ => v = .bl true) fun _ _ _ => False)
    (ok : HOk P w H s₁.heap) (told : ∀ b u, H b = some u → b = a) (out : ∀ u, H a = some u → K.lookup a = none) : codeAny (model P w) callerA (.call (.ref fa) ⟨[.ref a], []⟩) (Yes s₁) s₁ := by
  have low : ∀ {b : Addr} {o : Obj}, s₁.heap.get? b = some o → (∀ u, H b ≠ some u) → (hidT s₁.heap H).get? b = some o := by
    intro b o q n
    refine hidT_get q ?_
    match hb : H b with
    | none => rfl
    | some u => exact absurd hb (n u)
  have names : ∀ {b : Addr} {m : Str → Option Value}, s₁.heap.Ns b m → (hidT s₁.heap H).Ns b m := by
    rintro b m ⟨o, es, ep, q, d, r⟩
    refine ⟨o, es, ep, low q fun u z => ?_, d, r⟩
    cases told b u z
    rw [script] at q
    cases q
    exact absurd (show Data.seq vs.toArray _ = Data.dict es ep from d) (fun z => by cases z)
  have inB : K.In (hidT s₁.heap H) := fun b o q => low (inK b o q) fun u z => by
    cases told b u z
    rw [out u z] at q
    cases q
  have md : Mod K mg (hidT s₁.heap H) := by
    obtain ⟨mc, c1, c2⟩ := free
    exact ⟨inB, names gl, ⟨mb, names bl, same⟩, ⟨mc, names c1, c2⟩⟩
  have nil : ∀ b : Addr, b ∉ frs ([] : List Env) := fun b z => by cases z
  have e0 : Env0 P w K mg (hidT s₁.heap H) callerA [] s₁ H := ⟨rfl, md, fun b o q => of_hidT q, Nat.le_of_eq (hidT_size _ _), trivial, fun b z => absurd z (nil b), ok, .of_eq none_⟩
  apply codeAny_mono ((F _ inB (names gl)).goes callerA [] s₁ H ⟨[.ref a], []⟩ [.ref a] [.ref a] _ _ rfl room e0 (bt s₁ (.ref a)) (.cons rfl .nil) pr)
  intro r s' z
  match r, z with
  | .error e, z => exact (no H e s' z).elim
  | .ok .next, z => exact z.elim
  | .ok .brk, z => exact z.elim
  | .ok .cont, z => exact z.elim
  | .ok (.ret u), z =>
    obtain ⟨v, G, os, bare, un, ok2, r2, q⟩ := z
    cases (show v = .bl true from q)
    cases (show u = Value.bool true from r2)
    refine ⟨rfl, OldK.of_keep ?_, os, bare⟩
    intro b o hb
    rcases only b with n | ⟨ob, xs, y⟩
    · exact un.keep b o hb n (nil b) (fun z => by cases z)
    · have y1 := (ok b _ y).1
      have y2 := (ok2 b _ (un.frzs b ob _ y)).1
      rw [hb] at y1
      cases y1
      exact y2
theorem law_goes (inK : K.In s₁.heap) (gl : s₁.heap.Ns mainGlobals mg) (bl : s₁.heap.Ns builtinsNs mb) (same : ∀ x : Str, x ≠ "__name__" → mb x = bootBuiltins x) (free : s₁.heap.NoLimit) (none_ : s₁.gens = #[])
    (script : s₁.heap.get? a = some { cls := .type "list", data := .seq vs.toArray }) (whole : IntsAre vs ns) (few : ns.length ≤ sizeLine) (room : Room k callerA) (F : ∀ B : Heap, K.In B → B.Ns mainGlobals mg → FnG P w K mg B X0 k fa fd [x] sp)
    (bt : ∀ (s : Shared) (u : Value), BindsTo s fd ⟨[u], []⟩ [(x, u)]) (pr : ∀ H : Hp, Only H → SqL K H a (ns.map V.int) → sp [.ref a] H (fun v _ => v = .bl true) fun _ _ _ => False)
    (no : ∀ H e s', X0 [] H s₁ (fun _ _ _ => False) e s' → False) : codeAny (model P w) callerA (.call (.ref fa) ⟨[.ref a], []⟩) (Yes s₁) s₁ := by
  have rel := vals_ints whole
  have n := whole.length
  by_cases hk : K.lookup a = none
  · have at_a : ∀ b : Addr, b = a → (if b = a then some (HO.frz { cls := .type "list", data := .seq vs.toArray } (.lst (ns.map V.int))) else none) = some (.frz { cls := .type "list", data := .seq vs.toArray } (.lst (ns.map V.int))) := fun b e => if_pos e
    have off : ∀ b : Addr, b ≠ a → (if b = a then some (HO.frz { cls := .type "list", data := .seq vs.toArray } (.lst (ns.map V.int))) else none) = none := fun b e => if_neg e
    have only : Only fun b => if b = a then some (HO.frz { cls := .type "list", data := .seq vs.toArray } (.lst (ns.map V.int))) else none := fun b => by
      rcases Decidable.em (b = a) with e | e
      · exact .inr ⟨_, _, at_a b e⟩
      · exact .inl (off b e)
    refine law_from inK gl bl same free none_ script room F bt no _ only (pr _ only (.inl (.inr ⟨_, at_a a rfl⟩))) ?_ ?_ fun _ _ => hk
    · intro b u z
      try dsimp only at z
      rcases Decidable.em (b = a) with e | e
      · rw [at_a b e] at z
        cases z
        cases e
        exact ⟨script, by rw [List.length_map]; exact few, vs, _, rel, script⟩
      · rw [off b e] at z
        cases z
    · intro b u z
      try dsimp only at z
      rcases Decidable.em (b = a) with e | e
      · exact e
      · rw [off b e] at z
        cases z
  · obtain ⟨o, ho⟩ := Option.ne_none_iff_exists'.mp hk
    have q := inK a o ho
    rw [script] at q
    cases q
    have only : Only fun _ => none := fun _ => .inl rfl
    refine law_from inK gl bl same free none_ script room F bt no _ only (pr _ only (.inr ⟨_, vs.toArray, _, ho, rfl, rfl, rfl, ?_, ?_⟩)) ?_ ?_ ?_
    · rw [List.size_toArray, n]; exact few
    · simpa using rel
    · exact fun b u z => nomatch (show (none : Option HO) = some u from z)
    · exact fun b u z => nomatch (show (none : Option HO) = some u from z)
    · exact fun u z => nomatch (show (none : Option HO) = some u from z)
end
/-- the goal that is left of a law -/
theorem walk_G {l : PySem.W.OpenLaw} {n k : Nat} {q : Program} {loose : List Str} {XP : (Str → Option Value) → Heap → Prop} {YP : World → Heap → Prop} {d : DefRec} {X0 : CXT} {x : Str} (hn : l.most = some n) (hn2 : n ≤ sizeLine) (hdf : d.params.defaults = []) (room : Room k callerA)
    (F : ∀ (w : World) (mg : Str → Option Value) (fa : Addr) (h : Heap), YP w h → h.Ns mainGlobals mg → mg d.name = some (.ref fa) → ∃ (K : PySem.W.Frag) (fd : FuncData) (sp : Sp), K.In h ∧ (∀ (s : Shared) (u : Value), BindsTo s fd ⟨[u], []⟩ [(x, u)]) ∧
      (∀ (H : Hp) (a : Addr) (ns : List Int), ns.length ≤ n → Only H → SqL K H a (ns.map V.int) → sp [.ref a] H (fun v _ => v = .bl true) fun _ _ _ => False) ∧ ∀ B : Heap, K.In B → B.Ns mainGlobals mg → FnG l.prog w K mg B X0 k fa fd [x] sp)
    (no : ∀ (H : Hp) (s : Shared) (e : Value) (s' : Shared), X0 [] H s (fun _ _ _ => False) e s' → False) : PySem.W.WalkO q loose XP YP l.row.toRowW d [] (fun f vs => PySem.call f vs) := by
  apply Att.attach_call hn hdf
  intro w s₀ s₁ mg mb fa o pm cd doc a vs ns G Y ho hd hcd hmg hobj hints hlen hg
  obtain ⟨K, fd, sp, inK, bt, pr, go⟩ := F w mg fa _ Y G.T.g hmg
  exact law_goes inK G.T.g G.T.b G.T.builtins G.T.nolimit hg hobj hints (Nat.le_trans hlen hn2) room go bt (fun H o s => pr H a ns hlen o s) fun H e s' => no H s₁ e s'
end Lg

set_option Elab.async false
set_option linter.all false
set_option maxRecDepth 100000
set_option maxHeartbeats 4000000
namespace Lg
open PySem PySem.Spec PyProof.Rows L2
/-! values as data, dicts too -/
def kD : Key → PyData
  | .inl i => .int i
  | .inr z => .str z
mutual
inductive Da (H : Hp) : V → PyData → Prop where
  | non : Da H .non .none
  | bl (b : Bool) : Da H (.bl b) (.bool b)
  | int (i : Int) : Da H (.int i) (.int i)
  | str (z : Str) : Da H (.str z) (.str z)
  | lst {a : Addr} {xs : List V} {ds : List PyData} (h : H a = some (.lst xs)) (all : DaAll H xs ds) : Da H (.ref a) (.list ds)
  | tup {a : Addr} {xs : List V} {ds : List PyData} (h : H a = some (.tup xs)) (all : DaAll H xs ds) : Da H (.ref a) (.tuple ds)
  | dic {a : Addr} {kvs : List (Key × V)} {ds : List PyData} (h : H a = some (.dK kvs)) (all : DaAll H (kvs.map (·.2)) ds) : Da H (.ref a) (.dict ((kvs.map fun p => kD p.1).zip ds))
inductive DaAll (H : Hp) : List V → List PyData → Prop where
  | nil : DaAll H [] []
  | cons {v : V} {vs : List V} {d : PyData} {ds : List PyData} (h : Da H v d) (all : DaAll H vs ds) : DaAll H (v :: vs) (d :: ds)
end
mutual
theorem Da.same {H G : Hp} (s : Same H G) : ∀ {v : V} {d : PyData}, Da H v d → Da G v d
  | _, _, .non => .non
  | _, _, .bl b => .bl b
  | _, _, .int i => .int i
  | _, _, .str z => .str z
  | _, _, .lst h all => .lst (s _ _ h) (DaAll.same s all)
  | _, _, .tup h all => .tup (s _ _ h) (DaAll.same s all)
  | _, _, .dic h all => .dic (s _ _ h) (DaAll.same s all)
theorem DaAll.same {H G : Hp} (s : Same H G) : ∀ {vs : List V} {ds : List PyData}, DaAll H vs ds → DaAll G vs ds
  | _, _, .nil => .nil
  | _, _, .cons h all => .cons (Da.same s h) (DaAll.same s all)
end
theorem DaAll.length {H : Hp} : ∀ {vs : List V} {ds : List PyData}, DaAll H vs ds → vs.length = ds.length
  | _, _, .nil => rfl
  | _, _, .cons _ all => by rw [List.length_cons, List.length_cons, DaAll.length all]
/-- the interpreter's own table of modules stands in K -/
def SysIn (K : PySem.W.Frag) : Prop := ∃ o, K.lookup sysModules = some o ∧ o.cls = .type "dict"
section
variable {X : Cx} {pins : List (Addr × Obj)} {σ : L2.St} {H : Hp} {s : Shared}
theorem key_reads {h : Heap} {k : Key} {u : Value} (e : (mixKind X.prog X.w).is k u = true) : Reads h u (kD k) [] := by
  rcases keyIs_shape e with ⟨i, t, rfl, rfl⟩ | ⟨z, t, rfl, rfl⟩
  · exact Reads.int i t
  · exact Reads.str z t
theorem ne_sys (I : Inv X pins σ H s) (y : SysIn X.K) {a : Addr} {o : Obj} (h : s.heap.get? a = some o) (c : o.cls ≠ .type "dict") : sysModules ≠ a := by
  rintro rfl
  obtain ⟨u, hu, cu⟩ := y
  have q := I.kIn _ _ hu
  rw [h] at q
  cases q
  exact c cu
theorem keys_read {h : Heap} : ∀ {es : List DictEntry} {kvs : List (Key × Value)}, Pairs (mixKind X.prog X.w) es kvs → ReadsAll h (es.map (·.key)) (kvs.map fun p => kD p.1) [] ∧ es.map (·.val) = kvs.map (·.2)
  | _, _, .nil => ⟨.nil, rfl⟩
  | _, _, .cons k v r => by
    obtain ⟨r1, r2⟩ := keys_read (h := h) r
    exact ⟨ReadsAll.cons (key_reads k) r1, by rw [List.map_cons, List.map_cons, r2, v]⟩
theorem kv_split : ∀ {kvs : List (Key × V)} {vs : List (Key × Value)}, KV kvs vs → vs.map (fun p => kD p.1) = kvs.map (fun p => kD p.1) ∧ Vals (kvs.map (·.2)) (vs.map (·.2))
  | _, _, .nil => ⟨rfl, .nil⟩
  | _, _, .cons h r => by
    obtain ⟨r1, r2⟩ := kv_split r
    exact ⟨by rw [List.map_cons, List.map_cons, r1, h.1], .cons h.2 r2⟩
theorem zip_fst : ∀ {as bs : List PyData}, as.length = bs.length → (as.zip bs).map (·.1) = as ∧ (as.zip bs).map (·.2) = bs
  | [], [], _ => ⟨rfl, rfl⟩
  | a :: as, b :: bs, h => by
    obtain ⟨r1, r2⟩ := zip_fst (as := as) (bs := bs) (by simpa using h)
    exact ⟨by rw [List.zip_cons_cons, List.map_cons, r1], by rw [List.zip_cons_cons, List.map_cons, r2]⟩
mutual
theorem Da.reads (I : Inv X pins σ H s) (y : SysIn X.K) : ∀ {v : V} {d : PyData} {u : Value}, Da H v d → RelV v u → ∃ as, Reads s.heap u d as ∧ sysModules ∉ as
  | _, _, u, .non, r => by cases (show u = Value.none from r); exact ⟨_, Reads.none, List.not_mem_nil⟩
  | _, _, u, .bl b, r => by cases (show u = Value.bool b from r); exact ⟨_, Reads.bool b, List.not_mem_nil⟩
  | _, _, u, .int i, r => by obtain ⟨t, e⟩ := (show ∃ t, u = Value.int i t from r); cases e; exact ⟨_, Reads.int i t, List.not_mem_nil⟩
  | _, _, u, .str z, r => by obtain ⟨t, e⟩ := (show ∃ t, u = Value.str z t from r); cases e; exact ⟨_, Reads.str z t, List.not_mem_nil⟩
  | _, _, u, .lst (a := a) (xs := xs) h all, r => by
    cases (show u = Value.ref a from r)
    obtain ⟨_, its, n, rv, ho⟩ := (show ObjOk X.prog X.w H s.heap a (.lst xs) from I.hok a _ h)
    obtain ⟨as, q, n1⟩ := DaAll.reads I y all rv
    refine ⟨_, Reads.list ho rfl rfl (by simpa using q), ?_⟩
    rintro (_ | _)
    · exact ne_sys I y ho (by simp) rfl
    · rename_i z; exact n1 z
  | _, _, u, .tup (a := a) (xs := xs) h all, r => by
    cases (show u = Value.ref a from r)
    obtain ⟨_, its, rv, o, ho, hc, n, hd⟩ := (show ObjOk X.prog X.w H s.heap a (.tup xs) from I.hok a _ h)
    obtain ⟨as, q, n1⟩ := DaAll.reads I y all rv
    exact ⟨_, Reads.tuple ho hc hd (by simpa using q), n1⟩
  | _, _, u, .dic (a := a) (kvs := kvs) (ds := ds) h all, r => by
    cases (show u = Value.ref a from r)
    obtain ⟨_, ns, vs, kv, o, es, ep, ho, hx, hd, _, ps, _⟩ := (show ObjOk X.prog X.w H s.heap a (.dK kvs) from I.hok a _ h)
    obtain ⟨k1, k2⟩ := keys_read (h := s.heap) ps
    obtain ⟨k3, k4⟩ := kv_split kv
    obtain ⟨as, q, n1⟩ := DaAll.reads I y all k4
    have ln : (kvs.map fun p => kD p.1).length = ds.length := by rw [List.length_map, ← all.length, List.length_map]
    obtain ⟨z1, z2⟩ := zip_fst ln
    refine ⟨_, Reads.dict ho hx.1 hd (as := []) (by rw [z1, ← k3]; exact k1) (by rw [z2, k2]; exact q), ?_⟩
    rintro (_ | _)
    · exact absurd ns (by simp)
    · rename_i z; exact n1 z
theorem DaAll.reads (I : Inv X pins σ H s) (y : SysIn X.K) : ∀ {vs : List V} {ds : List PyData} {us : List Value}, DaAll H vs ds → Vals vs us → ∃ as, ReadsAll s.heap us ds as ∧ sysModules ∉ as
  | _, _, _, .nil, .nil => ⟨_, ReadsAll.nil, List.not_mem_nil⟩
  | _, _, _, .cons h all, .cons r rs => by
    obtain ⟨as, q1, n1⟩ := Da.reads I y h r
    obtain ⟨bs, q2, n2⟩ := DaAll.reads I y all rs
    exact ⟨_, ReadsAll.cons q1 q2, fun z => (List.mem_append.mp z).elim n1 n2⟩
end
/-- repr of data -/
def rRepr : List V → Hp → VK → Prop := fun xs H Q => ∃ (v : V) (d : PyData), xs = [v] ∧ Da H v d ∧ d.showable = true ∧ d.depth ≤ 16 ∧ d.shown.length ≤ sizeLine ∧ Q (.str d.shown) H
theorem call_repr (y : SysIn X.K) (g : X.A.guards = some []) (room : X.A.units + 200 < cLine) : CallR X (.builtin "repr") rRepr := by
  intro pins s σ H xs us Q I r h
  obtain ⟨v, d, rfl, hd, hs, dp, sz, q⟩ := h
  obtain ⟨u, rfl, rv⟩ := vals1 r
  obtain ⟨as, rd, nm⟩ := Da.reads I y hd rv
  have big : ∀ b : Addr, u = .ref b → wpAny (model X.prog X.w) X.A (call (.builtin "repr") [u]) (EP X pins σ Q) X.xe s := by
    rintro b rfl
    exact PySem.repr_of_reads' rd hs (fun _ => nm) g (by omega) (fun _ _ e => e) (fun h' t tk kept => ⟨.str _, H, I.kept kept, ⟨t, rfl⟩, q⟩) sz
  cases hd with
  | non => cases (show u = Value.none from rv); exact PySem.P.repr_of_none ⟨.str "None", H, I.tok _, ⟨_, rfl⟩, q⟩
  | bl b => cases (show u = Value.bool b from rv); exact PySem.P.repr_of_bool ⟨.str _, H, I.tok _, ⟨_, rfl⟩, q⟩
  | int i => obtain ⟨t, e⟩ := (show ∃ t, u = Value.int i t from rv); cases e; exact PySem.P.repr_of_int (of_decide_eq_true hs) ⟨.str _, H, I.tok _, ⟨_, rfl⟩, q⟩
  | str z => obtain ⟨t, e⟩ := (show ∃ t, u = Value.str z t from rv); cases e; exact PySem.P.repr_of_str ⟨.str _, H, I.tok _, ⟨_, rfl⟩, q⟩ sz
  | lst h all => exact big _ rv
  | tup h all => exact big _ rv
  | dic h all => exact big _ rv
end
end Lg

set_option Elab.async false
set_option linter.all false
set_option maxRecDepth 100000
set_option maxHeartbeats 4000000
namespace Oe
open PySem PySem.Spec PyProof.Rows L2
/-! == and != of an instance with an own __eq__ -/
/-- what it is compared with, and the type of that -/
inductive Cv (C : Addr) (H : Hp) : V → Value → Prop where
  | ins {b dx : Addr} {fs : List (Str × V)} (h : H b = some (.ins C dx fs)) : Cv C H (.ref b) (.ref C)
  | non : Cv C H .non (.type "NoneType")
  | str (z : Str) : Cv C H (.str z) (.type "str")
  | tup {p : Addr} {xs : List V} (h : H p = some (.tup xs)) : Cv C H (.ref p) (.type "tuple")
  | lst {p : Addr} {xs : List V} (h : H p = some (.lst xs)) : Cv C H (.ref p) (.type "list")
section
variable {X : Cx} {pins : List (Addr × Obj)} {σ : L2.St} {H : Hp} {s : Shared} {C : Addr}
theorem looks_ty {v : Value} {T : String} (h : ∀ s' : Shared, (∀ b o, s.heap.get? b = some o → s'.heap.get? b = some o) → s'.TypeIs v T) : PySem.W.Looks (model X.prog X.w) s.heap (typeOf v) (.type T) :=
  fun A Q E s' kept q => wpAny_typeOf (h s' kept) q
theorem Cv.looks (I : Inv X pins σ H s) {y : V} {u t : Value} (c : Cv C H y t) (r : RelV y u) : PySem.W.Looks (model X.prog X.w) s.heap (typeOf u) t := by
  cases c with
  | @ins b dx fs h =>
    cases (show u = Value.ref b from r)
    obtain ⟨m, J, _⟩ := ins_get I.hok h
    obtain ⟨od, J, _⟩ := J.look
    exact J.type
  | non => cases (show u = Value.none from r); exact looks_ty fun _ _ => rfl
  | str z => obtain ⟨t, e⟩ := (show ∃ t, u = Value.str z t from r); cases e; exact looks_ty fun _ _ => rfl
  | @tup p xs h =>
    cases (show u = Value.ref p from r)
    obtain ⟨_, its, rv, o, ho, hc, n, hd⟩ := (show ObjOk X.prog X.w H s.heap p (.tup xs) from I.hok p _ h)
    exact looks_ty fun s' kept => ⟨o, kept _ _ ho, hc⟩
  | @lst p xs h =>
    cases (show u = Value.ref p from r)
    obtain ⟨_, its, n, rv, ho⟩ := (show ObjOk X.prog X.w H s.heap p (.lst xs) from I.hok p _ h)
    exact looks_ty fun s' kept => ⟨_, kept _ _ ho, rfl⟩
/-- an own def, called below -/
theorem own_call {A : Around} {Ex : Value → Shared → Prop} {k : Nat} {f : Addr} {fd : FuncData} {ps : List Str} {sp : Sp} {us : List Value} {vs : List V} {Q : VK} (fr : A.frames = some X.stack) (room : Room k A) (F : FnOk X.prog X.w X.K X.mg X.base CX0 k f fd ps sp)
    (bt : Binds X.K fd ps []) (I : Inv X pins σ H s) (r : Vals vs us) (pr : sp vs H Q E0) : wpAny (model X.prog X.w) A (call (.ref f) us) (EP X pins σ Q) Ex s := by
  have e := I.env0
  have n : us.length = ps.length := by rw [← r.length]; exact F.len _ _ _ _ pr
  have b1 := bt s us I.kIn (by rw [List.append_nil]; exact n)
  rw [List.append_nil] at b1
  refine wpAny_call (codeAny_mono (F.run A X.stack s H ⟨us, []⟩ us vs Q E0 room ⟨fr, e.mod, e.bs, e.bsz, e.funs, e.frf, e.hok, e.bare⟩ b1 r pr) ?_)
  intro rr s2 z
  match rr, z with
  | .error e, z => exact z.elim
  | .ok (.ret u), z => exact I.after z
  | .ok .next, z => exact z.elim
  | .ok .brk, z => exact z.elim
  | .ok .cont, z => exact z.elim
/-- what a class with an own __eq__ and no own __ne__ has -/
structure EqC (K : PySem.W.Frag) (C f : Addr) : Prop where
  eq : PySem.W.findIn K (.ref C) "__eq__" = some (some (.ref f))
  ne : PySem.W.findIn K (.ref C) "__ne__" = some (some (.builtin "object.__ne__"))
  fn : PySem.W.isFn K (.ref f) = true
  ob : PySem.W.mroIn K C (.type "object") = some true
def rOwn (K : PySem.W.Frag) (C : Addr) (sp : Sp) (g : Bool → Bool) : R2 := fun x y H Q => ∃ (a dx : Addr) (fs : List (Str × V)) (t : Value), x = .ref a ∧ H a = some (.ins C dx fs) ∧ Cv C H y t ∧ PySem.W.notFirst K C t = true ∧
  sp [.ref a, y] H (fun v H' => ∃ b, v = .bl b ∧ Q (.bl (g b)) H') E0
variable {k : Nat} {f : Addr} {fd : FuncData} {ps : List Str} {sp : Sp}
theorem op_eqI (E : EqC X.K C f) (F : FnOk X.prog X.w X.K X.mg X.base CX0 k f fd ps sp) (bt : Binds X.K fd ps []) (room : Room k X.A) : OpR X (compareOp .Eq) (rOwn X.K C sp id) := by
  intro pins s σ H x y u v Q I rx ry h
  obtain ⟨a, dx, fs, t, rfl, ha, c, nf, pr⟩ := h
  cases (show u = Value.ref a from rx)
  obtain ⟨m, J, _⟩ := ins_get I.hok ha
  obtain ⟨od, J, _⟩ := J.look
  have fr := I.ok.frames
  obtain ⟨m2, hF⟩ := I.fr
  show wpAny (model X.prog X.w) X.A (richCompare .Eq (.ref a) v) (EP X pins σ Q) X.xe s
  refine PySem.W.cmp_K (op := .Eq) room.units0 hF I.ok.mod.kin J (c.looks I ry) nf E.eq E.fn (thn (own_call fr room F bt I (vs := [.ref a, y]) (.cons (show RelV (.ref a) (Value.ref a) from rfl) (.cons ry .nil)) pr) ?_)
  rintro r s2 ⟨z, H2, I2, rz, b, rfl, q⟩
  cases (show r = Value.bool b from rz)
  exact ⟨.bl b, H2, I2, rfl, q⟩
/-- object.__ne__ on such an instance: its own __eq__ is asked -/
theorem ne_entry {A : Around} {R : Fin → Shared → Prop} {Ex : Value → Shared → Prop} {a : Addr} {ox : Obj} {od : Option Obj} {u : Value} (hu : A.units < cLine) (E : EqC X.K C f) (KI : X.K.In s.heap) (J : PySem.W.InstAt s.heap a ox C od)
    (h : wpAny (model X.prog X.w) A (call (.ref f) [.ref a, u]) (fun r s' => ∃ b, r = .bool b ∧ R (.done (.ret (.bool (!b)))) s') Ex s) : wpAny (model X.prog X.w) A (Builtin.«object.__ne__» ⟨[.ref a, u], []⟩) R Ex s := by
  unfold Builtin.«object.__ne__»
  show wpAny _ _ (slotArgs "__ne__" 1 ⟨[.ref a, u], []⟩ >>= _) _ _ s
  refine wpAny_bind (wpAny_of_eq (rfl : slotArgs "__ne__" 1 ⟨[.ref a, u], []⟩ = pure (.ref a, [u])) ?_)
  refine wpAny_bind (wpAny_cRoomFor hu (wpAny_bind ?_))
  refine PySem.W.ifBound_K KI J E.eq E.fn (wpAny_mono h ?_ fun _ _ z => z)
  rintro r s' ⟨b, rfl, q⟩
  exact wpAny_bind (wpAny_truthy_bool (wpAny_pure q))
theorem ne_call {A : Around} {R : Value → Shared → Prop} {Ex : Value → Shared → Prop} {a : Addr} {ox : Obj} {od : Option Obj} {u : Value} (hu : A.units + 1 < cLine) (E : EqC X.K C f) (KI : X.K.In s.heap) (J : PySem.W.InstAt s.heap a ox C od)
    (h : wpAny (model X.prog X.w) A.in1 (call (.ref f) [.ref a, u]) (fun r s' => ∃ b, r = .bool b ∧ R (.bool (!b)) s') (fun _ _ => False) s) : wpAny (model X.prog X.w) A (tryCompare (.ref a) "__ne__" u) (fun r s' => ∃ v, r = some v ∧ v ≠ .notImplemented ∧ R v s') Ex s := by
  have run : wpAny (model X.prog X.w) A (call (.builtin "object.__ne__") [.ref a, u]) (fun v s' => ∃ b, v = .bool b ∧ R v s') Ex s := by
    refine wpAny_call (codeAny_call_builtin F.cmp_object.ne.plain F.cmpEntry_ne (PySem.W.check_slot F.cmpKind_ne F.cmpSplit_ne (J.type.andThen (PySem.W.looks_mroIn KI E.ob)) (F.cmpArgs_ne _ _) ?_))
    refine ne_entry (by show A.units + 1 < cLine; exact hu) E KI J (wpAny_mono h ?_ fun _ _ z => z.elim)
    rintro r s' ⟨b, rfl, q⟩
    exact ⟨b, rfl, _, rfl, q⟩
  unfold tryCompare
  have last : wpAny (model X.prog X.w) A (callSpecialIfBound? (.ref a) "__ne__" [u]) (fun r s' => ∃ b, r = some (.bool b) ∧ R (.bool b) s') Ex s := by
    simp only [callSpecialIfBound?, bindSpecialIfBound?]
    refine wpAny_holding (wpAny_bind (wpAny_bind (wpAny_bind (J.type.here ((PySem.W.looks_findIn KI E.ne).here (wpAny_bind (wpAny_askSetting (wpAny_ite ?_))))))))
    have go : wpAny (model X.prog X.w) A (call (.builtin "object.__ne__") ([.ref a] ++ [u]) >>= fun v => pure (some v)) (fun r s' => ∃ b, r = some (.bool b) ∧ R (.bool b) s') Ex s := by
      refine wpAny_bind (wpAny_mono run ?_ fun _ _ z => z)
      rintro v s' ⟨b, rfl, q⟩
      exact wpAny_pure ⟨b, rfl, q⟩
    split
    · exact wpAny_bind (wpAny_of_eq (F.cmp_object.ne.bind _) (wpAny_pure (by exact go)))
    · exact wpAny_tryCatch (wpAny_bind (wpAny_of_eq (F.cmp_object.ne.bind _) (wpAny_pure (by exact go))))
  refine wpAny_bind (wpAny_mono last ?_ fun _ _ z => z)
  rintro r s' ⟨b, rfl, q⟩
  exact wpAny_pure ⟨_, rfl, (fun z => by cases z), q⟩
theorem rich_ne {R : Value → Shared → Prop} {Ex : Value → Shared → Prop} {A : Around} {a : Addr} {ox : Obj} {od : Option Obj} {u t : Value} (hu : A.units < cLine) (KI : X.K.In s.heap) (J : PySem.W.InstAt s.heap a ox C od) (look : PySem.W.Looks (model X.prog X.w) s.heap (typeOf u) t)
    (nf : PySem.W.notFirst X.K C t = true) (h : wpAny (model X.prog X.w) A (tryCompare (.ref a) "__ne__" u) (fun r s' => ∃ v, r = some v ∧ v ≠ .notImplemented ∧ R v s') Ex s) : wpAny (model X.prog X.w) A (richCompare .NotEq (.ref a) u) R Ex s := by
  have sub : t = .ref C ∨ PySem.W.subIn X.K t (.ref C) = some false := (Bool.or_eq_true_iff.mp nf).imp beq_iff_eq.mp beq_iff_eq.mp
  have go : ∀ K2 : Option Value → Sem Value, (∀ v, K2 (some v) = pure v) → wpAny (model X.prog X.w) A (tryCompare (.ref a) "__ne__" u >>= K2) R Ex s := by
    intro K2 e
    refine wpAny_bind (wpAny_mono h ?_ fun _ _ z => z)
    rintro r s' ⟨v, rfl, _, q⟩
    rw [e v]
    exact wpAny_pure q
  unfold richCompare
  simp only [oneThing_ref]
  refine wpAny_holding (wpAny_bind (wpAny_cRoomFor hu (wpAny_bind (J.type.here (wpAny_bind (look.here ?_))))))
  split
  · rename_i q
    rcases sub with e | e
    · rw [e] at q
      simp at q
    · refine wpAny_bind ((PySem.W.looks_subIn KI e).here ?_)
      simp only [Bool.false_eq_true, if_false]
      exact go _ fun _ => rfl
  · refine wpAny_bind (wpAny_pure ?_)
    simp only [Bool.false_eq_true, if_false]
    exact go _ fun _ => rfl
theorem op_neI (E : EqC X.K C f) (F : FnOk X.prog X.w X.K X.mg X.base CX0 k f fd ps sp) (bt : Binds X.K fd ps []) (room : Room (k + 1) X.A) : OpR X (compareOp .NotEq) (rOwn X.K C sp Bool.not) := by
  intro pins s σ H x y u v Q I rx ry h
  obtain ⟨a, dx, fs, t, rfl, ha, c, nf, pr⟩ := h
  cases (show u = Value.ref a from rx)
  obtain ⟨m, J, _⟩ := ins_get I.hok ha
  obtain ⟨od, J, _⟩ := J.look
  have fr := I.ok.frames
  have r1 : Room k X.A.in1 := room.in1
  show wpAny (model X.prog X.w) X.A (richCompare .NotEq (.ref a) v) (EP X pins σ Q) X.xe s
  refine rich_ne room.units0 I.kIn J (c.looks I ry) nf (ne_call r1.units0 E I.kIn J (thn (own_call (A := X.A.in1) fr r1 F bt I (vs := [.ref a, y]) (.cons (show RelV (.ref a) (Value.ref a) from rfl) (.cons ry .nil)) pr) ?_))
  rintro r s2 ⟨z, H2, I2, rz, b, rfl, q⟩
  cases (show r = Value.bool b from rz)
  exact ⟨b, rfl, .bl (!b), H2, I2, rfl, q⟩
end
end Oe

set_option Elab.async false
set_option linter.all false
set_option maxRecDepth 100000
set_option maxHeartbeats 4000000
namespace Lw
open PySem PySem.Spec PyProof.Rows L2
def top (i : Nat) : Stmt := PySem.Challenge.pw_filteredcopies_k02_columns.main.body.getD i (.Pass ⟨0, 0, 0, 0⟩)
abbrev sSource : Stmt := top 14
abbrev sDraw : Stmt := top 15
abbrev sOf : Stmt := top 16
abbrev sWord : Stmt := top 17
abbrev sOdd : Stmt := top 18
abbrev sIsWord : Stmt := top 3
abbrev sCopied : Stmt := top 4
section
variable {P : Program} {w : World} {K : PySem.W.Frag} {mg : Str → Option Value} {base : Heap}
theorem scSource : FnScope ["script", "place", "cell", "digits"] ["script", "place"] (defScope sSource) := ⟨rfl, rfl, rfl, by decide +kernel, rfl, by decide +kernel, by decide +kernel⟩
theorem ok_source {f : Addr} {fd : FuncData} (F : FnP K "_law_source" sSource f fd) (T : TxtD mg) : FnOk P w K mg base CX0 1 f fd ["script", "place"] (spSource K) := by
  refine F.ok scSource (fun vs H Q E h => ?_) (fun cdv A outer s H vs Q E hr h => ?_)
  · obtain ⟨a, ns, i, rfl, _⟩ := h
    rfl
  · obtain ⟨a, ns, i, rfl, hS, hl, i0, i1, k⟩ := h
    refine ⟨_, PSs.nox (pss_cons (ps_set (i := 2) scSource.nd rfl (Or.inl rfl) (pe_ifExp (pt_cmpR op_lt (pv 1) (pe_callB call_len_seq (by rfl) T.len PySem.boot_len (pa_cons (pv 0) pa_nil)) (nomark _)) (pe_ix ix_list (pv 0) (pv 1) (fun _ _ => rfl)) pe_int))
      (pss_cons (ps_set (i := 3) scSource.nd rfl (Or.inl rfl) (pe_ifExp (pt_cmpR op_ge (pe_callB call_abs (by rfl) T.abs (by decide +kernel) (pa_cons (pv 2) pa_nil)) (pe_op op_pow pe_int pe_int) (nomark _)) (pe_callB call_abs (by rfl) T.abs (by decide +kernel) (pa_cons (pv 2) pa_nil)) pe_int))
      (pss_one (ps_ret (pe_lst (pa_cons (pv 3) (pa_cons (pe_op op_add (pe_op op_add (pe_op op_modN (pe_callTy call_int1 (by rfl) T.int (by decide +kernel) (pa_cons (pv 2) pa_nil)) pe_int) (pe_op op_mul pe_int (pv 1))) pe_int) (pa_cons pe_int pa_nil)))))))), ?_⟩
    refine sq_set (fun x H' => H = H' ∧ ∃ c : Int, x = .int c) (fun Q q => ?_) ?_
    · refine ⟨_, rfl, _, rfl, a, _, rfl, .inl hS, _, _, rfl, rfl, _, rfl, ?_⟩
      refine bool_ite (fun c => ?_) (fun c => ?_)
      · obtain ⟨x, hx, hm⟩ := atI_get (xs := ns.map V.int) i0 (by simpa using c)
        obtain ⟨z, _, rfl⟩ := List.mem_map.mp hm
        exact ⟨_, rfl, _, rfl, a, _, _, _, rfl, rfl, hS, hx, q _ _ ⟨rfl, z, rfl⟩⟩
      · exact q _ _ ⟨rfl, 0, rfl⟩
    rintro _ _ ⟨rfl, c, rfl⟩
    refine sq_set (fun x H' => H = H' ∧ ∃ d : Int, x = .int d ∧ 0 ≤ d) (fun Q q => ?_) ?_
    · refine ⟨_, rfl, _, rfl, _, _, rfl, rfl, ⟨by decide, by decide, by decide⟩, _, _, rfl, rfl, _, rfl, ?_⟩
      refine bool_ite (fun _ => ?_) (fun _ => ?_)
      · exact ⟨_, rfl, _, rfl, q _ _ ⟨rfl, _, rfl, by split <;> omega⟩⟩
      · exact q _ _ ⟨rfl, 0, rfl, by decide⟩
    rintro _ _ ⟨rfl, d, rfl, d0⟩
    refine ⟨_, rfl, _, rfl, .inl ⟨_, rfl, _, _, rfl, rfl, (by show (2305843009213693951 : Int) ≠ 0; decide), _, rfl, _, _, rfl, rfl, .inl ⟨by decide, by decide⟩, _, _, rfl, rfl, _, _, rfl, rfl, (by show 3 ≤ sizeLine; decide), fun p hp => ?_⟩⟩
    have hb := fmod_src c
    exact k p _ hp (fun b o h => by rw [upd_ne (ne_of_none h hp)]; exact h) ⟨d, _, 0, upd_same, d0, by omega, by omega, by decide, by decide⟩
theorem scDraw : FnScope ["source", "many", "digit"] ["source", "many"] (defScope sDraw) := ⟨rfl, rfl, rfl, by decide +kernel, rfl, by decide +kernel, by decide +kernel⟩
theorem ok_draw {f : Addr} {fd : FuncData} (F : FnP K "_law_draw" sDraw f fd) (T : TxtD mg) : FnOk P w K mg base CX0 1 f fd ["source", "many"] spDraw := by
  refine F.ok scDraw (fun vs H Q E h => ?_) (fun cdv A outer s H vs Q E hr h => ?_)
  · obtain ⟨a, n, m, rfl, _⟩ := h
    rfl
  · obtain ⟨a, n, m, rfl, ⟨d, s', t, hA, d0, s0, s1, t0, t1⟩, hn, m0, m1, k⟩ := h
    have hu := hu_of hr
    refine ⟨_, PSs.nox (pss_cons (ps_if (pt_cmpR op_gt (pe_ix ix_list (pv 0) pe_int (fun _ _ => rfl)) pe_int (nomark _))
        (pss_cons (ps_set (i := 2) scDraw.nd rfl (Or.inl rfl) (pe_op op_modN (pe_callTy call_int1 (by rfl) T.int (by decide +kernel) (pa_cons (pe_ix ix_list (pv 0) pe_int (fun _ _ => rfl)) pa_nil)) (pv 1)))
          (pss_cons (ps_asg (pe_op op_fdivN (pe_ix ix_list (pv 0) pe_int (fun _ _ => rfl)) (pv 1)) (pg_sub (pv 0) pe_int set_list)) (pss_one (ps_ret (pv 2))))) pss_nil)
      (pss_cons (ps_asg (pe_op op_add (pe_ix ix_list (pv 0) pe_int (fun _ _ => rfl)) pe_int) (pg_sub (pv 0) pe_int set_list))
      (pss_cons (ps_asg (pe_op op_modN (pe_callTy call_int1 (by rfl) T.int (by decide +kernel) (pa_cons (pe_op op_add (pe_op op_add (pe_op op_mul (pe_ix ix_list (pv 0) pe_int (fun _ _ => rfl)) pe_int) (pe_op op_mul (pe_op op_mul pe_int (pe_ix ix_list (pv 0) pe_int (fun _ _ => rfl))) (pe_ix ix_list (pv 0) pe_int (fun _ _ => rfl)))) pe_int) pa_nil)) pe_int) (pg_sub (pv 0) pe_int set_list))
      (pss_one (ps_ret (pe_op op_modN (pe_callTy call_int1 (by rfl) T.int (by decide +kernel) (pa_cons (pe_op op_fdivN (pe_op op_modN (pe_callTy call_int1 (by rfl) T.int (by decide +kernel) (pa_cons (pe_op op_add (pe_op op_pow (pe_op op_fdivN (pe_ix ix_list (pv 0) pe_int (fun _ _ => rfl)) pe_int) pe_int) (pe_op op_mul pe_int (pe_ix ix_list (pv 0) pe_int (fun _ _ => rfl)))) pa_nil)) pe_int) pe_int) pa_nil)) (pv 1))))))), ?_⟩
    have zA : ∀ (r : Int), 0 ≤ r.fmod m ∧ r.fmod m < m := fun r => ⟨Int.fmod_nonneg_of_pos r m0, Int.fmod_lt_of_pos r m0⟩
    have mz : m ≠ 0 := by omega
    have md : m ≠ 0 ∧ m.natAbs < 1073741824 := ⟨mz, by omega⟩
    refine sq_if (fun b H' => H = H' ∧ b = decide (0 < d)) (fun Q q => ?_) ?_ ?_
    · exact ⟨_, rfl, a, _, _, _, rfl, rfl, SqL.of hA, rfl, _, _, rfl, rfl, _, rfl, q _ _ ⟨rfl, rfl⟩⟩
    · rintro _ ⟨rfl, c⟩
      refine ⟨_, rfl, a, _, _, _, rfl, rfl, SqL.of hA, rfl, .inl ⟨_, rfl, _, rfl, _, _, rfl, rfl, mz, ?_⟩⟩
      refine ⟨_, rfl, a, _, _, _, rfl, rfl, SqL.of hA, rfl, _, rfl, _, _, rfl, rfl, md, _, rfl, a, _, _, _, rfl, rfl, hA, rfl, _, rfl, ?_⟩
      exact k _ _ (Keep.refl H).upd ⟨_, _, _, upd_same, Int.fdiv_nonneg d0 (by omega), s0, s1, t0, by omega⟩ (zA d).1 (zA d).2
    · rintro _ ⟨rfl, c⟩
      refine ⟨_, rfl, a, _, _, _, rfl, rfl, SqL.of hA, rfl, _, _, rfl, rfl, _, rfl, a, _, _, _, rfl, rfl, hA, rfl, ?_⟩
      refine ⟨_, rfl, a, _, _, _, rfl, rfl, SqL.of upd_same, rfl, _, _, rfl, rfl, .inl ⟨by show -(2 ^ 64) < s'; omega, by show s' < 2 ^ 64; omega⟩, _, rfl, a, _, _, _, rfl, rfl, SqL.of upd_same, rfl, _, _, rfl, rfl, .inl ⟨by decide, by decide⟩,
        _, rfl, a, _, _, _, rfl, rfl, SqL.of upd_same, rfl, _, _, rfl, rfl, .inr ⟨by show -(2 ^ 64) < t + 1; omega, by show t + 1 < 2 ^ 64; omega⟩, _, _, rfl, rfl, _, _, rfl, rfl, .inl ⟨_, rfl, _, _, rfl, rfl, (by show (2305843009213693951 : Int) ≠ 0; decide), _, rfl, a, _, _, _, rfl, rfl, upd_same, rfl, ?_⟩⟩
      have hb := fmod_src (s' * 69621 + 32452843 * (t + 1) * (t + 1) + 40009)
      have hq : ∀ z : Int, 0 ≤ z ∧ z < 2305843009213693951 → (z.fdiv 256).natAbs < 2 ^ 64 := fun z hz => by
        rw [Int.fdiv_eq_ediv_of_nonneg _ (by decide)]
        omega
      refine ⟨_, rfl, a, _, _, _, rfl, rfl, SqL.of upd_same, rfl, _, _, rfl, rfl, ⟨by decide, by decide⟩, _, _, rfl, rfl, ⟨by decide, by decide, hq _ hb⟩, _, rfl, a, _, _, _, rfl, rfl, SqL.of upd_same, rfl, _, _, rfl, rfl, .inl ⟨by decide, by decide⟩, _, _, rfl, rfl,
        .inl ⟨_, rfl, _, _, rfl, rfl, (by show (2305843009213693921 : Int) ≠ 0; decide), _, _, rfl, rfl, ⟨by decide, by decide⟩, .inl ⟨_, rfl, _, rfl, _, _, rfl, rfl, mz, ?_⟩⟩⟩
      refine k _ _ ((Keep.refl H).upd.upd) ⟨_, _, _, upd_same, d0, by omega, by omega, by omega, by omega⟩ (zA _).1 (zA _).2
theorem cal_draw (T : TxtD mg) (D : DefIs K mg "_law_draw" sDraw) : Cal P w K mg base CX0 "_law_draw" 1 ["source", "many"] spDraw := by
  obtain ⟨f, fd, hm, F⟩ := D
  exact ⟨f, fd, hm, F.kp, ok_draw F T, F.bindsN fun _ _ _ _ _ _ us hl => match us, hl with | [_, _], _ => rfl⟩
theorem scOf : FnScope ["source", "some"] ["source", "some"] (defScope sOf) := ⟨rfl, rfl, rfl, by decide +kernel, rfl, by decide +kernel, by decide +kernel⟩
theorem ok_of {f : Addr} {fd : FuncData} (F : FnP K "_law_of" sOf f fd) (T : TxtD mg) (cD : Cal P w K mg base CX0 "_law_draw" 1 ["source", "many"] spDraw) : FnOk P w K mg base CX0 2 f fd ["source", "some"] (spOf K) := by
  refine F.ok scOf (fun vs H Q E h => ?_) (fun cdv A outer s H vs Q E hr h => ?_)
  · obtain ⟨a, b, n, xs, rfl, _⟩ := h
    rfl
  · obtain ⟨a, b, n, xs, rfl, hs, hn, ba, hb, x0, x1, k⟩ := h
    refine ⟨_, PSs.nox (pss_one (ps_ret (pe_ix ix_list (pv 1) (pe_cal cD hr (pa_cons (pv 0) (pa_cons (pe_callB call_len_seq (by rfl) T.len PySem.boot_len (pa_cons (pv 1) pa_nil)) pa_nil))) (fun _ _ => rfl)))), ?_⟩
    have xl : 0 < xs.length := List.length_pos_iff.mpr x0
    refine ⟨_, rfl, _, rfl, _, rfl, b, _, rfl, .inl hb, a, n, _, rfl, hs, hn, by omega, by omega, fun H' i kp sr i0 i1 => ?_⟩
    obtain ⟨x, hx, hm⟩ := atI_get i0 i1
    exact ⟨b, _, _, _, rfl, rfl, kp.seq ba hb, hx, k _ _ kp sr hm⟩
theorem scWord : FnScope nWord ["source", "taken"] (defScope sWord) := ⟨rfl, rfl, rfl, by decide +kernel, rfl, by decide +kernel, by decide +kernel⟩
theorem ok_word {f : Addr} {fd : FuncData} (F : FnP K "_law_word" sWord f fd) (T : TxtD mg) (cD : Cal P w K mg base CX0 "_law_draw" 1 ["source", "many"] spDraw) : FnOk P w K mg base CX0 2 f fd ["source", "taken"] (spWord K) := by
  refine F.ok scWord (fun vs H Q E h => ?_) (fun cdv A outer s H vs Q E hr h => ?_)
  · obtain ⟨a, b, n, ts, rfl, _⟩ := h
    rfl
  · obtain ⟨a, b, n, ts, rfl, hs, hn, ba, hb, hts, k⟩ := h
    refine ⟨_, PSs.nox (pss_cons (ps_set (i := 2) scWord.nd rfl (Or.inr rfl) pe_str)
      (pss_cons (ps_set (i := 3) scWord.nd rfl (Or.inr rfl) (pe_join pe_str (pe_lc (own := [("turn", 5)]) (g := gName 5) (tt := tYes) rfl scWord.nd (pi_range1 rfl T.range (pa_cons (pe_op op_add pe_int (pe_cal cD hr (pa_cons (pv 0) (pa_cons pe_int pa_nil)))) pa_nil))
        (blkOk_by (N := nWord) (sc := defScope sWord) (by decide +kernel)) (fun _ _ _ _ _ => pg_name (i := 5) scWord.nd rfl (Or.inl rfl)) (fun _ _ _ _ _ => pts_nil) (fun _ _ _ _ _ => pe_ix ix_str (pv 2) (pe_cal cD hr (pa_cons (pv 0) (pa_cons pe_int pa_nil))) (fun _ _ => rfl)))))
      (pss_cons (ps_if (pt_cmpR op_notIn_seq (pv 3) (pv 1) rfl) (pss_one (ps_ret (pv 3))) pss_nil)
      (pss_cons (ps_setLc (i := 4) (own := [("letter", 6)]) (g := gName 6) (tt := tTest (tOp (rIn K true) (tSl rSlS (tOp _ (tVar 6) (tVar 3)) tNoPart (tPart (tC (.int 8)))) (tVar 1))) rfl scWord.nd rfl rfl (sw_true rfl rfl rfl (by decide +kernel)) (pi_str (pv 2)) (blkOk_by (N := nWord) (sc := defScope sWord) (by decide +kernel))
        (fun _ _ _ _ _ => pg_name (i := 6) scWord.nd rfl (Or.inl rfl)) (fun _ _ _ _ _ => pts_one (pt_cmpR op_notIn_seq (pe_slice sl_str (pe_op op_add_str (pv 6) (pv 3)) po_none (po_some pe_int)) (pv 1) rfl)) (fun _ _ _ _ _ => pv 6))
      (pss_one (ps_ret (pe_slice sl_str (pe_op op_add_str (pe_ix ix_list (pv 4) pe_int (fun _ _ => rfl)) (pv 3)) po_none (po_some pe_int)))))))), ?_⟩
    refine sq_set (fun x H' => H = H' ∧ x = .str letters) (fun Q q => q _ _ ⟨rfl, rfl⟩) ?_
    rintro _ _ ⟨rfl, rfl⟩
    refine sq_set (fun x H' => ∃ z, x = .str z ∧ IsWord z ∧ Keep a H H' ∧ Src H' a (n + 10)) (fun Q q => ?_) ?_
    · refine ⟨⟨_, rfl⟩, _, rfl, a, n, _, rfl, hs, by omega, by decide, by decide, fun H1 i k1 s1 i0 i1 => ⟨_, _, rfl, rfl, _, rfl, by omega, by omega, fun D hD => ?_⟩⟩
      have Da : D ≠ a := s1.ne hD
      refine lc_range (lo := 0) (n := (1 + i).toNat) (fun j H' => ∃ cs : List Nat, H' D = some (.lst ((cs.map sign).map V.str)) ∧ cs.length = j ∧ (∀ c ∈ cs, c ∈ abc) ∧ Keep a H H' ∧ Src H' a (n + 1 + j))
        ⟨[], upd_same, rfl, fun _ h => (List.not_mem_nil h).elim, k1.new hD, s1.new hD⟩ ?_ ?_
      · rintro j H' hj ⟨cs, hd, hl, ha, k2, s2⟩
        refine ⟨rfl, _, rfl, _, rfl, a, _, _, rfl, s2, by omega, by decide, by decide, fun H3 i3 k3 s3 j0 j1 => ?_⟩
        obtain ⟨c, hc, hm⟩ := abc_at j0 j1
        have hd3 := k3 _ _ Da hd
        refine ⟨_, _, c, rfl, rfl, (by show letters.cps.size ≤ sizeLine; rw [letters_cps]; decide), hc, _, hd3, by simp only [List.length_map, hl]; exact small1000 (by omega), cs ++ [c], ?_, by simp [hl], fun x hx => ?_, ?_, ?_⟩
        · rw [upd_same]; simp [sign]
        · rcases List.mem_append.mp hx with h | h
          · exact ha x h
          · rw [List.mem_singleton.mp h]; exact hm
        · intro b' o nb ho
          have e := k3 b' o nb (k2 b' o nb ho)
          by_cases hbD : b' = D
          · exfalso
            rw [hbD] at ho nb
            have := k1 D o nb ho
            rw [hD] at this
            cases this
          · rw [upd_ne hbD]; exact e
        · obtain ⟨d, s', t, h1, h2⟩ := s3
          exact ⟨d, s', t, by rw [upd_ne Da.symm]; exact h1, h2⟩
      · rintro H' ⟨cs, hd, hl, ha, k2, s2⟩
        refine ⟨_, D, cs.map sign, rfl, rfl, .inl (SqL.of hd), ?_, ?_⟩
        · have e1 : ((cs.map sign).map (·.length)).sum = cs.length := by
            clear hd hl ha
            induction cs with
            | nil => rfl
            | cons c r ih => simp only [List.map_cons, List.sum_cons, ih, List.length_cons]; show 1 + _ = _; omega
          have e2 : (PySem.Str.ofString "").length = 0 := by decide +kernel
          rw [e1, e2]
          omega
        · have e : (Txt.join (PySem.Str.ofString "") (cs.map sign)).cps.toList = cs := join_signs _ (by decide +kernel) cs
          refine q _ _ ⟨_, rfl, ⟨?_, ?_, ?_⟩, k2, s2.mono (by omega)⟩
          · rw [len_tl, e]; omega
          · rw [len_tl, e]; omega
          · rw [e]; exact fun c hc => abc_le (ha c hc)
    rintro _ H1 ⟨z, rfl, hz, k1, s1⟩
    have hb1 := k1.seq ba hb
    refine sq_if1 (fun b' H' => H1 = H' ∧ (b' = true → z ∉ ts)) (fun Q q => ?_) ?_ ?_
    · refine ⟨_, rfl, _, rfl, b, _, rfl, .inl hb1, rfl, flat_strs ts, _, rfl, q _ _ ⟨rfl, fun h => ?_⟩⟩
      have h2 : (!inV (.str z) (ts.map V.str)) = true := h
      rw [inV_str] at h2
      simpa using h2
    · rintro _ ⟨rfl, hnt⟩
      exact ⟨_, rfl, k _ _ k1 s1 hz (hnt rfl)⟩
    rintro _ ⟨rfl, _⟩
    refine sq_set (fun x H' => ∃ D, x = .ref D ∧ D ≠ a ∧ H' D = some (.lst (((abc.filter (fun c => !decide (cand z c ∈ ts))).map sign).map V.str)) ∧ Keep a H H' ∧ Src H' a (n + 10)) (fun Q q => ?_) ?_
    · refine ⟨_, rfl, _, rfl, fun D hD => ?_⟩
      have Da : D ≠ a := s1.ne hD
      refine lc_it walk_str (fun j H' => H' D = some (.lst ((((abc.take j).filter (fun c => !decide (cand z c ∈ ts))).map sign).map V.str)) ∧ Keep a H H' ∧ Src H' a (n + 10))
        ⟨upd_same, k1.new hD, s1.new hD⟩ (fun _ _ _ _ => trivial) ?_ ?_
      · rintro j x H' _ hj ⟨hd, k2, s2⟩ ⟨rfl, c, hc, rfl⟩
        have hc2 : abc[j]? = some c := by
          rw [letters_cps] at hc
          simpa using hc
        have ht : abc.take (j + 1) = abc.take j ++ [c] := by rw [List.take_add_one, hc2]; rfl
        refine ⟨rfl, _, rfl, _, rfl, _, _, rfl, rfl, ?_, _, rfl, _, rfl, ?_, _, rfl, b, _, rfl, .inl (k2.seq ba hb), rfl, flat_strs ts, _, rfl, ?_⟩
        · have := hz.2.1
          show 1 + z.length ≤ sizeLine
          exact Nat.le_trans (show 1 + z.length ≤ 9 by omega) (by decide)
        · show (sign c ++ z).length ≤ sizeLine
          have := hz.2.1
          rw [len_tl] at this
          rw [len_tl, tl_app]
          simp only [List.length_append, tl_sign, List.length_singleton]
          exact Nat.le_trans (show 1 + z.cps.toList.length ≤ 9 by omega) (by decide)
        · refine str_notmem (fun h => ?_) (fun h => ?_)
          · refine ⟨_, rfl, _, hd, ?_, ?_, ?_, ?_⟩
            · simp only [List.length_map]
              refine Nat.lt_of_le_of_lt (List.length_filter_le _ _) (Nat.lt_of_le_of_lt (List.length_take_le' _ _) (by decide))
            · rw [upd_same, ht, List.filter_append, List.map_append, List.map_append]
              have e : [c].filter (fun c => !decide (cand z c ∈ ts)) = [c] := by
                have h2 : cand z c ∉ ts := h
                simp [h2]
              rw [e]
              rfl
            · intro b' o nb ho
              by_cases hbD : b' = D
              · exfalso
                rw [hbD] at ho nb
                have := k1 D o nb ho
                rw [hD] at this
                cases this
              · rw [upd_ne hbD]; exact k2 b' o nb ho
            · obtain ⟨d, s', t, h1, h2⟩ := s2
              exact ⟨d, s', t, by rw [upd_ne Da.symm]; exact h1, h2⟩
          · refine ⟨?_, k2, s2⟩
            rw [ht, List.filter_append]
            have e : [c].filter (fun c => !decide (cand z c ∈ ts)) = [] := by
              have h2 : cand z c ∈ ts := h
              simp [h2]
            rw [e, List.append_nil]
            exact hd
      · rintro H' ⟨hd, k2, s2⟩
        refine q _ _ ⟨D, rfl, Da, ?_, k2, s2⟩
        have e : abc.take letters.cps.size = abc := by rw [letters_cps]; rfl
        rw [e] at hd
        exact hd
    rintro _ H2 ⟨D, rfl, Da, hd, k2, s2⟩
    have hne := free_some z ts hts
    obtain ⟨c, r, hcr⟩ := List.exists_cons_of_ne_nil hne
    have hc : c ∈ abc.filter (fun c => !decide (cand z c ∈ ts)) := by rw [hcr]; exact List.mem_cons_self
    obtain ⟨hca, hcn⟩ := List.mem_filter.mp hc
    have hcn2 : cand z c ∉ ts := by simpa using hcn
    rw [hcr] at hd
    refine ⟨_, rfl, D, _, _, _, rfl, rfl, SqL.of hd, atI_nat (j := 0) rfl, _, rfl, _, _, rfl, rfl, ?_, _, rfl, _, rfl, ?_, k _ _ k2 s2 (cand_word hz hca) hcn2⟩
    · have := hz.2.1
      show 1 + z.length ≤ sizeLine
      exact Nat.le_trans (show 1 + z.length ≤ 9 by omega) (by decide)
    · show (sign c ++ z).length ≤ sizeLine
      have := hz.2.1
      rw [len_tl] at this
      rw [len_tl, tl_app]
      simp only [List.length_append, tl_sign, List.length_singleton]
      exact Nat.le_trans (show 1 + z.cps.toList.length ≤ 9 by omega) (by decide)
theorem scIsWord : FnScope ["value", "letter"] ["value"] (defScope sIsWord) := ⟨rfl, rfl, rfl, by decide +kernel, rfl, by decide +kernel, by decide +kernel⟩
theorem ok_isWord {f : Addr} {fd : FuncData} (F : FnP K "is_word" sIsWord f fd) (T : TxtP mg) : FnOk P w K mg base CX0 1 f fd ["value"] (spIsWord K) := by
  obtain ⟨tk, hlw⟩ := T.longest
  refine F.ok scIsWord (fun vs H Q E h => ?_) (fun cdv A outer s H vs Q E hr h => ?_)
  · obtain ⟨v, b, rfl, _⟩ := h
    rfl
  · obtain ⟨v, b, rfl, hv, k⟩ := h
    refine ⟨_, PSs.nox (pss_cons (ps_if (PW.pt (pw_or (pt_not (pt_val (pe_callB call_isi (by rfl) T.isi (by decide +kernel) (pa_cons (pv 0) (pa_cons (pe_bltn (v := .ty "str") (by rfl) T.str (by decide +kernel) rfl) pa_nil)))))
        (pw_or1 (pt_not (pt_chain op_le op_le pe_int (pe_callB call_len_str (by rfl) T.len PySem.boot_len (pa_cons (pv 0) pa_nil)) (pe_glob (v := .int 8) rfl hlw ⟨_, rfl⟩)))))) (pss_one (ps_ret pe_bl)) pss_nil)
      (pss_one (ps_ret (pe_callB (cr_all rfl) (by rfl) T.all (by decide +kernel) (pa_cons (pe_lc (own := [("letter", 1)]) (g := gName 1) (tt := tYes) rfl scIsWord.nd (pi_str (pv 0)) (blkOk_by (N := ["value", "letter"]) (sc := defScope sIsWord) (by decide +kernel))
        (fun _ _ _ _ _ => pg_name (i := 1) scIsWord.nd rfl (Or.inl rfl)) (fun _ _ _ _ _ => pts_nil) (fun _ _ _ _ _ => pe_chain op_le_str op_le_str pe_str (pv 1) pe_str)) pa_nil))))), ?_⟩
    have isz : ∀ z : Str, z.length ≤ 1000 → z.length ≤ sizeLine := fun z hz => Nat.le_trans hz (by decide)
    rcases hv with ⟨z, rfl, hz, rfl⟩ | ⟨rfl, t, ht, kt⟩
    · refine sq_if1 (fun b' H' => H = H' ∧ b' = !(decide (1 ≤ z.length) && decide (z.length ≤ 8))) (fun Q q => ?_) ?_ ?_
      · refine ⟨_, rfl, _, _, _, _, true, rfl, .ty _, ty_str z, kit_ty (by decide +kernel), true, rfl, iteF ⟨_, rfl, _, rfl, isz z hz, _, _, rfl, rfl, _, rfl, ?_⟩⟩
        refine bool_ite (fun c => ?_) (fun c => ?_)
        · refine ⟨_, _, rfl, rfl, _, rfl, q _ _ ⟨rfl, ?_⟩⟩
          have c1 : 1 ≤ z.length := by omega
          rw [decide_eq_true c1, Bool.true_and]
          congr 1
          exact decide_eq_decide.mpr (by omega)
        · refine ⟨_, rfl, q _ _ ⟨rfl, ?_⟩⟩
          have c1 : ¬ 1 ≤ z.length := by omega
          rw [decide_eq_false c1, Bool.false_and]
      · rintro _ ⟨rfl, e⟩
        have e1 : isWordB z = false := by
          unfold isWordB
          rw [← Bool.and_assoc]
          have e2 : (decide (1 ≤ z.length) && decide (z.length ≤ 8)) = false := by
            cases q : (decide (1 ≤ z.length) && decide (z.length ≤ 8)) with
            | false => rfl
            | true => rw [q] at e; cases e
          rw [e2, Bool.false_and]
        rw [e1] at k
        exact k _ (Same.refl H)
      · rintro _ ⟨rfl, e⟩
        have e2 : (decide (1 ≤ z.length) && decide (z.length ≤ 8)) = true := by
          cases q : (decide (1 ≤ z.length) && decide (z.length ≤ 8)) with
          | true => rfl
          | false => rw [q] at e; cases e
        have e1 : isWordB z = z.cps.toList.all fun c => decide (97 ≤ c) && decide (c ≤ 122) := by
          unfold isWordB
          rw [← Bool.and_assoc, e2, Bool.true_and]
        refine ⟨_, rfl, z, rfl, fun D hD => ?_⟩
        refine lc_it walk_str (fun j H' => H' D = some (.lst (((z.cps.toList.take j).map fun c => decide (97 ≤ c) && decide (c ≤ 122)).map V.bl)) ∧ Same H H')
          ⟨upd_same, fun b o h => by rw [upd_ne (ne_of_none h hD)]; exact h⟩ (fun _ _ _ _ => trivial) ?_ ?_
        · rintro j x _ H' hj ⟨hd, k2⟩ ⟨rfl, c, hc, rfl⟩
          have hc2 : z.cps.toList[j]? = some c := by simpa using hc
          have ht : z.cps.toList.take (j + 1) = z.cps.toList.take j ++ [c] := by rw [List.take_add_one, hc2]; rfl
          have fin : ∀ b' : Bool, b' = (decide (97 ≤ c) && decide (c ≤ 122)) → ∃ acc, H' D = some (.lst acc) ∧ acc.length < sizeLine ∧ ((upd H' D (.lst (acc ++ [.bl b']))) D = some (.lst (((z.cps.toList.take (j + 1)).map fun c => decide (97 ≤ c) && decide (c ≤ 122)).map V.bl)) ∧ Same H (upd H' D (.lst (acc ++ [.bl b'])))) := fun b' hb' => by
            refine ⟨_, hd, ?_, ?_, fun b o h => ?_⟩
            · simp only [List.length_map]
              rw [len_tl] at hz
              exact Nat.lt_of_le_of_lt (List.length_take_le' _ _) (Nat.lt_of_le_of_lt hz (by decide))
            · rw [upd_same, ht, List.map_append, List.map_append, hb']
              rfl
            · by_cases hbD : b = D
              · rw [hbD, hD] at h
                cases h
              · rw [upd_ne hbD]; exact k2 b o h
          have la : ∀ c d : Nat, decide (([c] : List Nat) < [d]) = decide (c < d) := lt_sign
          refine ⟨rfl, _, rfl, _, _, rfl, rfl, _, rfl, ?_⟩
          show if (!decide ([c] < [97])) = true then _ else _
          rw [lt_sign]
          by_cases c1 : c < 97
          · rw [decide_eq_true c1, Bool.not_true, if_neg Bool.false_ne_true]
            exact fin false (by rw [decide_eq_false (by omega : ¬ 97 ≤ c), Bool.false_and])
          · rw [decide_eq_false c1, Bool.not_false, if_pos rfl]
            refine ⟨_, _, rfl, rfl, ?_⟩
            show ∃ acc, _ ∧ _ ∧ _
            have e3 : (!decide ([122] < ([c] : List Nat))) = (decide (97 ≤ c) && decide (c ≤ 122)) := by
              rw [lt_sign, decide_eq_true (by omega : 97 ≤ c), Bool.true_and]
              by_cases c2 : c ≤ 122
              · rw [decide_eq_true c2, decide_eq_false (by omega : ¬ 122 < c)]; rfl
              · rw [decide_eq_false c2, decide_eq_true (by omega : 122 < c)]; rfl
            exact fin _ e3
        · rintro H' ⟨hd, k2⟩
          have e4 : z.cps.toList.take z.cps.size = z.cps.toList := List.take_of_length_le (by simp)
          rw [e4] at hd
          refine ⟨D, _, rfl, SqL.of hd, ?_⟩
          have e5 : (z.cps.toList.map fun c => decide (97 ≤ c) && decide (c ≤ 122)).all id = isWordB z := by
            rw [e1, List.all_map]
            rfl
          show Q (.bl _) H'
          rw [e5]
          exact k _ k2
    · refine sq_if1 (fun b' H' => H = H' ∧ b' = true) (fun Q q => ⟨_, rfl, _, _, _, _, false, rfl, .ty _, ht, kit_ty kt, false, rfl, iteT (q _ _ ⟨rfl, rfl⟩)⟩) ?_ ?_
      · rintro _ ⟨rfl, _⟩
        exact k _ (Same.refl H)
      · rintro _ ⟨_, e⟩
        cases e
theorem scCopied : FnScope ["value", "part", "name"] ["value"] (defScope sCopied) := ⟨rfl, rfl, rfl, by decide +kernel, rfl, by decide +kernel, by decide +kernel⟩
theorem ok_copied {f : Addr} {fd : FuncData} (F : FnP K "copied" sCopied f fd) (T : TxtP mg) : FnOk P w K mg base CX0 1 f fd ["value"] (spCopied K) := by
  refine F.ok scCopied (fun vs H Q E h => ?_) (fun cdv A outer s H vs Q E hr h => ?_)
  · obtain ⟨v, rfl, _⟩ := h
    rfl
  · obtain ⟨v, rfl, ⟨t1, h1, k1⟩, ⟨t2, h2, k2⟩, ⟨t3, h3, k3⟩, k⟩ := h
    refine ⟨_, PSs.nox (pss_cons (ps_if (pt_val (pe_callB call_isi (by rfl) T.isi (by decide +kernel) (pa_cons (pv 0) (pa_cons (pe_bltn (v := .ty "list") (by rfl) T.list (by decide +kernel) rfl) pa_nil)))) (pss_one ps_never) pss_nil)
      (pss_cons (ps_if (pt_val (pe_callB call_isi (by rfl) T.isi (by decide +kernel) (pa_cons (pv 0) (pa_cons (pe_bltn (v := .ty "tuple") (by rfl) T.tuple (by decide +kernel) rfl) pa_nil)))) (pss_one ps_never) pss_nil)
      (pss_cons (ps_if (pt_val (pe_callB call_isi (by rfl) T.isi (by decide +kernel) (pa_cons (pv 0) (pa_cons (pe_bltn (v := .ty "dict") (by rfl) T.dict (by decide +kernel) rfl) pa_nil)))) (pss_one ps_never) pss_nil)
      (pss_one (ps_ret (pv 0)))))), ?_⟩
    exact ⟨_, rfl, _, _, _, _, false, rfl, .ty _, h1, kit_ty k1, false, rfl, iteF ⟨_, rfl, _, _, _, _, false, rfl, .ty _, h2, kit_ty k2, false, rfl, iteF ⟨_, rfl, _, _, _, _, false, rfl, .ty _, h3, kit_ty k3, false, rfl, iteF ⟨_, rfl, k⟩⟩⟩⟩
theorem scOdd : FnScope ["source"] ["source"] (defScope sOdd) := ⟨rfl, rfl, rfl, by decide +kernel, rfl, by decide +kernel, by decide +kernel⟩
theorem ok_odd {f : Addr} {fd : FuncData} (F : FnP K "_law_odd" sOdd f fd) (cO : Cal P w K mg base CX0 "_law_of" 2 ["source", "some"] (spOf K)) : FnOk P w K mg base CX0 3 f fd ["source"] spOdd := by
  refine F.ok scOdd (fun vs H Q E h => ?_) (fun cdv A outer s0 H vs Q E hr h => ?_)
  · obtain ⟨a, n, rfl, _⟩ := h
    rfl
  · obtain ⟨a, n, rfl, hs, hn, k⟩ := h
    refine ⟨_, PSs.nox (pss_one (ps_ret (pe_cal cO hr (pa_cons (pv 0) (pa_cons (pe_lst (pa_cons pe_str (pa_cons pe_str (pa_cons pe_str (pa_cons pe_str (pa_cons pe_str (pa_cons pe_str (pa_cons pe_str (pa_cons pe_str (pa_cons pe_str
      (pa_cons pe_non (pa_cons pe_int (pa_cons pe_int (pa_cons pe_bl (pa_cons pe_bl (pa_cons (pe_un un_neg pe_int) (pa_cons (pe_op op_pow pe_int pe_int) (pa_cons (pe_tup (pa_cons pe_str pa_nil)) (pa_cons (pe_lst (pa_cons pe_str pa_nil))
      (pa_cons (pe_disp (pps_cons pe_str pe_str pps_nil) (by rfl) (by rfl) (fun z => by cases z) (by decide)) (pa_cons (pe_tup pa_nil) (pa_cons (pe_lst pa_nil) pa_nil)))))))))))))))))))))) pa_nil))))), ?_⟩
    refine ⟨_, rfl, _, rfl, _, _, rfl, rfl, ⟨by decide, by decide, by decide⟩, (by show 1 ≤ sizeLine; decide), fun t1 n1 => ⟨(by show 1 ≤ sizeLine; decide), fun l1 n2 => fun d1 n3 => ⟨upd_same, [(.inr "a", .str "b")], rfl, (by show 1 ≤ 15; decide), (by show 0 ≤ sizeLine; decide), fun t2 n4 => ⟨(by show 0 ≤ sizeLine; decide), fun l2 n5 => ⟨(by show 21 ≤ sizeLine; decide), fun L n6 => ?_⟩⟩⟩⟩⟩
    have s1 := Lw.Same.new (o := .tup [.str "a"]) (Same.refl H) n1
    have s2 := Lw.Same.new (o := .lst [.str "a"]) (Same.refl _) n2
    have s3 := same_new2 (o := .dK []) (u := .dK (mergeK [] [(.inr "a", .str "b")])) n3
    have s4 := Lw.Same.new (o := .tup []) (Same.refl _) n4
    have s5 := Lw.Same.new (o := .lst []) (Same.refl _) n5
    have s6 := Lw.Same.new (o := .lst [.str "", .str "abcdefghi", .str "A", .str "aB", .str "a1", .str "a b", .str " a", .str "a_", .str "-", .non, .int 0, .int 1, .bl true, .bl false, .int (-7), .int (10 ^ 30), .ref t1, .ref l1, .ref d1, .ref t2, .ref l2]) (Same.refl _) n6
    have e6 := s6
    have e5 := s5.trans e6
    have e4 := s4.trans e5
    have e3 := s3.trans e4
    have e2 := s2.trans e3
    have e1 := s1.trans e2
    have a1 : t1 ≠ a := hs.ne n1
    have a2 : l1 ≠ a := (hs.same s1).ne n2
    have a3 : d1 ≠ a := (hs.same (s1.trans s2)).ne n3
    have a4 : t2 ≠ a := (hs.same ((s1.trans s2).trans s3)).ne n4
    have a5 : l2 ≠ a := (hs.same (((s1.trans s2).trans s3).trans s4)).ne n5
    have a6 : L ≠ a := (hs.same ((((s1.trans s2).trans s3).trans s4).trans s5)).ne n6
    refine ⟨a, L, n, _, rfl, hs.same e1, by omega, a6, SqL.of upd_same, (fun z => by cases z), (by show 21 ≤ 100000; decide), fun H' x kp sr hx => ?_⟩
    refine k H' x ((Keep.of_same e1).trans kp) sr (Odd.keep kp ?_)
    simp only [List.mem_cons, List.not_mem_nil, or_false] at hx
    rcases hx with rfl | rfl | rfl | rfl | rfl | rfl | rfl | rfl | rfl | rfl | rfl | rfl | rfl | rfl | rfl | rfl | rfl | rfl | rfl | rfl | rfl
    · exact .str (by decide +kernel)
    · exact .str (by decide +kernel)
    · exact .str (by decide +kernel)
    · exact .str (by decide +kernel)
    · exact .str (by decide +kernel)
    · exact .str (by decide +kernel)
    · exact .str (by decide +kernel)
    · exact .str (by decide +kernel)
    · exact .str (by decide +kernel)
    · exact .non
    · exact .int _
    · exact .int _
    · exact .bl _
    · exact .bl _
    · exact .int _
    · exact .int _
    · exact .tup a1 (e2 _ _ upd_same) (.inr rfl)
    · exact .lst a2 (e3 _ _ upd_same) (.inr rfl)
    · exact .dic a3 (e4 _ _ upd_same)
    · exact .tup a4 (e5 _ _ upd_same) (.inl rfl)
    · exact .lst a5 (e6 _ _ upd_same) (.inl rfl)
end
end Lw

set_option Elab.async false
set_option linter.all false
set_option maxRecDepth 100000
set_option maxHeartbeats 4000000
namespace Lw
open PySem PySem.Spec PyProof.Rows L2 Lg
/-! copied, of flat values and of what holds flat values -/
inductive Fl : V → PyData → Prop where
  | non : Fl .non .none
  | bl (b : Bool) : Fl (.bl b) (.bool b)
  | int (i : Int) : Fl (.int i) (.int i)
  | str (z : Str) : Fl (.str z) (.str z)
theorem Fl.da {H : Hp} {v : V} {d : PyData} (h : Fl v d) : Da H v d := by
  cases h with
  | non => exact .non
  | bl b => exact .bl b
  | int i => exact .int i
  | str z => exact .str z
theorem Fl.nt {K : PySem.W.Frag} {H : Hp} {v : V} {d : PyData} (h : Fl v d) : NotTy K H v "list" ∧ NotTy K H v "tuple" ∧ NotTy K H v "dict" := by
  cases h with
  | non => exact ⟨⟨_, ty_non, by decide +kernel⟩, ⟨_, ty_non, by decide +kernel⟩, ⟨_, ty_non, by decide +kernel⟩⟩
  | bl b => exact ⟨⟨_, ty_bl b, by decide +kernel⟩, ⟨_, ty_bl b, by decide +kernel⟩, ⟨_, ty_bl b, by decide +kernel⟩⟩
  | int i => exact ⟨⟨_, ty_int i, by decide +kernel⟩, ⟨_, ty_int i, by decide +kernel⟩, ⟨_, ty_int i, by decide +kernel⟩⟩
  | str z => exact nt_str z
theorem fl_all {H : Hp} : ∀ {xs : List V} {ds : List PyData}, Paired Fl xs ds → DaAll H xs ds
  | _, _, .nil => .nil
  | _, _, .cons h r => .cons h.da (fl_all r)
theorem fl_at : ∀ {xs : List V} {ds : List PyData} {i : Nat} {v : V}, Paired Fl xs ds → xs[i]? = some v → ∃ d, Fl v d
  | _, _, 0, _, .cons h r, e => by cases e; exact ⟨_, h⟩
  | _, _, i + 1, _, .cons h r, e => fl_at (i := i) r (by simpa using e)
  | _, _, i, _, .nil, e => by simp at e
inductive Sh (H : Hp) : V → PyData → Prop where
  | fl {v : V} {d : PyData} (h : Fl v d) : Sh H v d
  | lst {a : Addr} {xs : List V} {ds : List PyData} (h : H a = some (.lst xs)) (p : Paired Fl xs ds) (n : xs.length ≤ 1000) : Sh H (.ref a) (.list ds)
  | tup {a : Addr} {xs : List V} {ds : List PyData} (h : H a = some (.tup xs)) (p : Paired Fl xs ds) (n : xs.length ≤ 1000) : Sh H (.ref a) (.tuple ds)
  | dic {a : Addr} {z : Str} {v : V} {d : PyData} (h : H a = some (.dK [(.inr z, v)])) (f : Fl v d) : Sh H (.ref a) (.dict [(.str z, d)])
theorem Sh.da {H : Hp} {v : V} {d : PyData} (h : Sh H v d) : Da H v d := by
  cases h with
  | fl h => exact h.da
  | lst h p n => exact .lst h (fl_all p)
  | tup h p n => exact .tup h (fl_all p)
  | @dic a z v d h f => exact .dic (ds := [d]) h (.cons f.da .nil)
def spCopy : Sp := fun vs H Q _ => ∃ (v : V) (d : PyData), vs = [v] ∧ Sh H v d ∧ ∀ G v', Same H G → Sh G v' d → Q v' G
abbrev nCop : List Str := ["value", "part", "name"]
section
variable {P : Program} {w : World} {K : PySem.W.Frag} {mg : Str → Option Value} {base : Heap}
theorem ok_copy {f : Addr} {fd : FuncData} (F : FnP K "copied" sCopied f fd) (T : TxtP mg) (cC : Cal P w K mg base CX0 "copied" 1 ["value"] (spCopied K)) : FnOk P w K mg base CX0 2 f fd ["value"] spCopy := by
  refine F.ok scCopied (fun vs H Q E h => ?_) (fun cdv A outer s H vs Q E hr h => ?_)
  · obtain ⟨v, d, rfl, _⟩ := h
    rfl
  · obtain ⟨v, d, rfl, hs, k⟩ := h
    have nd := scCopied.nd
    have hu := hu_of hr
    refine ⟨_, PSs.nox (pss_cons (ps_if (pt_val (pe_callB call_isi (by rfl) T.isi (by decide +kernel) (pa_cons (pv 0) (pa_cons (pe_bltn (v := .ty "list") (by rfl) T.list (by decide +kernel) rfl) pa_nil))))
        (pss_one (ps_ret (pe_lc (own := [("part", 1)]) (g := gName 1) (tt := tYes) rfl nd (pi_list (pv 0)) (blkOk_by (N := nCop) (sc := defScope sCopied) (by decide +kernel)) (fun _ _ _ _ _ => pg_name (i := 1) nd rfl (Or.inl rfl)) (fun _ _ _ _ _ => pts_nil) (fun _ _ _ _ _ => pe_cal cC hr (pa_cons (pv 1) pa_nil))))) pss_nil)
      (pss_cons (ps_if (pt_val (pe_callB call_isi (by rfl) T.isi (by decide +kernel) (pa_cons (pv 0) (pa_cons (pe_bltn (v := .ty "tuple") (by rfl) T.tuple (by decide +kernel) rfl) pa_nil))))
        (pss_one (ps_ret (pe_callTy call_tuple_of (by rfl) T.tuple (by decide +kernel) (pa_cons (pe_lc (own := [("part", 1)]) (g := gName 1) (tt := tYes) rfl nd (pi_tup (pv 0)) (blkOk_by (N := nCop) (sc := defScope sCopied) (by decide +kernel)) (fun _ _ _ _ _ => pg_name (i := 1) nd rfl (Or.inl rfl)) (fun _ _ _ _ _ => pts_nil) (fun _ _ _ _ _ => pe_cal cC hr (pa_cons (pv 1) pa_nil))) pa_nil)))) pss_nil)
      (pss_cons (ps_if (pt_val (pe_callB call_isi (by rfl) T.isi (by decide +kernel) (pa_cons (pv 0) (pa_cons (pe_bltn (v := .ty "dict") (by rfl) T.dict (by decide +kernel) rfl) pa_nil))))
        (pss_one (ps_ret (pe_lock (pe_dc (own := [("name", 2)]) (g := gName 2) (tt := tYes) rfl nd (pi_keys (pv 0)) (blkOk_by (N := nCop) (sc := defScope sCopied) (by decide +kernel)) (fun _ _ _ _ _ => pg_name (i := 2) nd rfl (Or.inl rfl)) (fun _ _ _ _ _ => pts_nil) (fun _ _ _ _ _ => pv 2) (fun _ _ _ _ _ => pe_cal cC hr (pa_cons (pe_dget hu (pv 0) (pv 2) (fun _ _ => rfl)) pa_nil)))))) pss_nil)
      (pss_one (ps_ret (pv 0)))))), ?_⟩
    have new1 : ∀ {H1 : Hp} {D : Addr} {o : HO}, Same H H1 → H D = none → Same H (upd H1 D o) := fun {H1 D o} s n b u e => by
      rw [upd_ne (ne_of_none e n)]
      exact s b u e
    cases hs with
    | @fl v d h =>
      obtain ⟨⟨t1, h1, k1⟩, ⟨t2, h2, k2⟩, ⟨t3, h3, k3⟩⟩ := h.nt (K := K) (H := H)
      exact ⟨_, rfl, _, _, _, _, false, rfl, .ty _, h1, kit_ty k1, false, rfl, iteF ⟨_, rfl, _, _, _, _, false, rfl, .ty _, h2, kit_ty k2, false, rfl, iteF ⟨_, rfl, _, _, _, _, false, rfl, .ty _, h3, kit_ty k3, false, rfl, iteF ⟨_, rfl, k _ _ (Same.refl H) (.fl h)⟩⟩⟩⟩
    | @lst a xs ds h p n =>
      refine ⟨_, rfl, _, _, _, _, true, rfl, .ty _, .base (.lst h), kit_ty (by decide +kernel), true, rfl, iteT ⟨_, rfl, a, rfl, ⟨_, SqL.of h⟩, fun D nD => ?_⟩⟩
      refine lc_list (K := K) (a := a) (xs := xs) (fun i H' => H' D = some (.lst (xs.take i)) ∧ Same H H') ⟨by rw [upd_same]; simp, Lw.Same.new (Same.refl H) nD⟩ (fun i H' _ z => SqL.of (z.2 _ _ h)) ?_ ?_
      · rintro i y H' hi ⟨hd, ss⟩
        obtain ⟨d, fd⟩ := fl_at p hi
        have il : i < xs.length := (List.getElem?_eq_some_iff.mp hi).1
        obtain ⟨n1, n2, n3⟩ := fd.nt (K := K) (H := H')
        refine ⟨rfl, _, rfl, y, rfl, n1, n2, n3, xs.take i, hd, ?_, ?_, new1 ss nD⟩
        · rw [List.length_take]; exact Nat.lt_of_le_of_lt (Nat.min_le_left _ _) (Nat.lt_of_lt_of_le il (Nat.le_trans n (by decide)))
        · rw [upd_same, List.take_add_one, hi]; rfl
      · rintro H' ⟨hd, ss⟩
        rw [List.take_length] at hd
        exact k _ _ ss (.lst hd p n)
    | @tup a xs ds h p n =>
      refine ⟨_, rfl, _, _, _, _, false, rfl, .ty _, .base (.tup h), kit_ty (by decide +kernel), false, rfl, iteF ?_⟩
      refine ⟨_, rfl, _, _, _, _, true, rfl, .ty _, .base (.tup h), kit_ty (by decide +kernel), true, rfl, iteT ⟨_, rfl, a, rfl, ⟨_, SqT.of h⟩, fun D nD => ?_⟩⟩
      refine lc_tup (K := K) (a := a) (xs := xs) (fun i H' => H' D = some (.lst (xs.take i)) ∧ Same H H') ⟨by rw [upd_same]; simp, Lw.Same.new (Same.refl H) nD⟩ (fun i H' _ z => SqT.of (z.2 _ _ h)) ?_ ?_
      · rintro i y H' hi ⟨hd, ss⟩
        obtain ⟨d, fd⟩ := fl_at p hi
        have il : i < xs.length := (List.getElem?_eq_some_iff.mp hi).1
        obtain ⟨n1, n2, n3⟩ := fd.nt (K := K) (H := H')
        refine ⟨rfl, _, rfl, y, rfl, n1, n2, n3, xs.take i, hd, ?_, ?_, new1 ss nD⟩
        · rw [List.length_take]; exact Nat.lt_of_le_of_lt (Nat.min_le_left _ _) (Nat.lt_of_lt_of_le il (Nat.le_trans n (by decide)))
        · rw [upd_same, List.take_add_one, hi]; rfl
      · rintro H' ⟨hd, ss⟩
        rw [List.take_length] at hd
        exact ⟨D, xs, rfl, .inl ⟨SqL.of hd, fun l nl => k _ _ (Lw.Same.new ss nl) (.tup upd_same p n)⟩⟩
    | @dic a z v d h f =>
      refine ⟨_, rfl, _, _, _, _, false, rfl, .ty _, .base (.dK h), kit_ty (by decide +kernel), false, rfl, iteF ?_⟩
      refine ⟨_, rfl, _, _, _, _, false, rfl, .ty _, .base (.dK h), kit_ty (by decide +kernel), false, rfl, iteF ?_⟩
      refine ⟨_, rfl, _, _, _, _, true, rfl, .ty _, .base (.dK h), kit_ty (by decide +kernel), true, rfl, iteT ?_⟩
      refine ⟨a, _, h, trivial, fun od => ⟨_, rfl, a, od, rfl, .inl ⟨_, upd_same, fun D nD => ?_⟩⟩⟩
      have Da' : D ≠ a := fun e => by subst e; rw [upd_same] at nD; cases nD
      have nD2 : H D = none := by rw [upd_ne Da'] at nD; exact nD
      have fz : ∀ o : HO, (upd (upd H a (.frz od (.dK [(.inr z, v)]))) D o) a = some (.frz od (.dK [(.inr z, v)])) := fun o => by rw [upd_ne Da'.symm]; exact upd_same
      refine ⟨fun i m H' => (i = 0 ∧ m = 1 ∧ H' = upd (upd H a (.frz od (.dK [(.inr z, v)]))) D (.dK [])) ∨ (i = 1 ∧ m = 0 ∧ H' = upd (upd H a (.frz od (.dK [(.inr z, v)]))) D (.dK [(.inr z, v)])), ⟨1, .inl ⟨rfl, rfl, rfl⟩⟩, ?_⟩
      rintro i m H' (⟨rfl, rfl, rfl⟩ | ⟨rfl, rfl, rfl⟩)
      · refine .inr ⟨⟨fz _, by simp⟩, fun H' => H' = upd (upd H a (.frz od (.dK [(.inr z, v)]))) D (.dK [(.inr z, v)]), fun H' e => ⟨0, by omega, .inr ⟨rfl, rfl, e⟩⟩, ?_⟩
        rintro x H'' ⟨rfl, k', v', hk, rfl⟩
        cases hk
        obtain ⟨n1, n2, n3⟩ := f.nt (K := K) (H := upd (upd H a (.frz od (.dK [(.inr z, v)]))) D (.dK []))
        have gt : DGet (upd (upd H a (.frz od (.dK [(.inr z, v)]))) D (.dK [])) a (.str z) (some v) := .inl ⟨[(.inr z, v)], .inr z, .inr ⟨od, fz _⟩, rfl, by simp [valV]⟩
        refine ⟨rfl, _, rfl, _, rfl, _, rfl, a, v, rfl, gt, v, rfl, n1, n2, n3, [], .inr z, rfl, upd_same, by decide, ?_⟩
        funext b
        by_cases e : b = D
        · subst e; rw [upd_same, upd_same]; rfl
        · rw [upd_ne e, upd_ne e, upd_ne e]
      · refine .inl ⟨⟨fz _, Nat.le_refl _⟩, fz _, k _ _ (fun b o e => ?_) (.dic ?_ f)⟩
        · by_cases hba : b = a
          · subst hba; rw [upd_same, ← h]; exact e
          · rw [upd_ne hba, upd_ne (ne_of_none e nD2), upd_ne hba]; exact e
        · rw [upd_ne Da', upd_same]
end
end Lw

set_option Elab.async false
set_option linter.all false
set_option maxRecDepth 100000
set_option maxHeartbeats 4000000
namespace Lw
open PySem PySem.Spec PyProof.Rows L2 Lg
abbrev sBC : Stmt := inClass (top 7) 0
abbrev sColI : Stmt := inClass (top 11) 0
abbrev sColE : Stmt := inClass (top 11) 1
/-! columns -/
def colF (z a b c : V) : List (Str × V) := putF "empty" c (putF "fixed" b (putF "large" a (putF "name" z [])))
theorem colF_eq (z a b c : V) : colF z a b c = ([("name", z), ("large", a), ("fixed", b), ("empty", c)] : List (Str × V)) := by
  have e1 : ¬ (("name" : Str) = "large") := by decide +kernel
  have e2 : ¬ (("name" : Str) = "fixed") := by decide +kernel
  have e3 : ¬ (("name" : Str) = "empty") := by decide +kernel
  have e4 : ¬ (("large" : Str) = "fixed") := by decide +kernel
  have e5 : ¬ (("large" : Str) = "empty") := by decide +kernel
  have e6 : ¬ (("fixed" : Str) = "empty") := by decide +kernel
  simp only [colF, putF, e1, e2, e3, e4, e5, e6, if_false]
theorem colF_name (z a b c : V) : (colF z a b c).lookup ("name" : Str) = some z := by rw [colF_eq, List.lookup_cons_self]
theorem look_skip {k k2 : Str} {v : V} {r : List (Str × V)} (h : (k == k2) = false) : List.lookup k ((k2, v) :: r) = List.lookup k r := by
  rw [List.lookup_cons, h]
theorem colF_large (z a b c : V) : (colF z a b c).lookup ("large" : Str) = some a := by
  rw [colF_eq, look_skip (by decide +kernel), List.lookup_cons_self]
theorem colF_fixed (z a b c : V) : (colF z a b c).lookup ("fixed" : Str) = some b := by
  rw [colF_eq, look_skip (by decide +kernel), look_skip (by decide +kernel), List.lookup_cons_self]
theorem colF_empty (z a b c : V) : (colF z a b c).lookup ("empty" : Str) = some c := by
  rw [colF_eq, look_skip (by decide +kernel), look_skip (by decide +kernel), look_skip (by decide +kernel), List.lookup_cons_self]
structure TxtC (K : PySem.W.Frag) (mg : Str → Option Value) (CC CT : Addr) : Prop where
  cl : Cls K CC
  n1 : NoAttr K CC "name"
  n2 : NoAttr K CC "large"
  n3 : NoAttr K CC "fixed"
  n4 : NoAttr K CC "empty"
  gC : mg "Column" = some (.ref CC)
  gT : mg "Table" = some (.ref CT)
  rd : ClX.CRead K CT (.type "type")
  key : ∃ u, ClX.CVal K CT (.type "type") "KEY" (.str "key") u
  isi : mg "isinstance" = none
  ha : PySem.W.findIn K (.ref CC) "__class__" = some (some (.builtin "object.__class__"))
  hn : PySem.W.specialIn K (.builtin "object.__class__") "__get__" = some (some (.builtin "getset_descriptor.__get__"))
  ht : PySem.W.takesIn K (.builtin "object.__class__") = some true
  hm : PySem.W.mroIn K CC (.type "object") = some true
/-- a column that tells this -/
def Col (CC : Addr) (H : Hp) (p : Addr) (z : Str) (a b c : Bool) : Prop := ∃ dx, H p = some (.ins CC dx (colF (.str z) (.bl a) (.bl b) (.bl c)))
theorem Col.same {CC : Addr} {H G : Hp} {p : Addr} {z : Str} {a b c : Bool} (s : Same H G) (h : Col CC H p z a b c) : Col CC G p z a b c := let ⟨dx, e⟩ := h; ⟨dx, s _ _ e⟩
def NotCol (K : PySem.W.Frag) (CC : Addr) (H : Hp) (y : V) : Prop := ∃ t, TyX K H y (.type t) ∧ PySem.W.kitOne K (.type t) (.ref CC) = some false
def spColE (K : PySem.W.Frag) (CC : Addr) : Sp := fun vs H Q _ => ∃ (p : Addr) (y : V) (z : Str) (a b c : Bool), vs = [.ref p, y] ∧ Col CC H p z a b c ∧
  ((∃ (q : Addr) (z2 : Str) (a2 b2 c2 : Bool), y = .ref q ∧ Col CC H q z2 a2 b2 c2 ∧ Q (.bl (decide (z = z2 ∧ a = a2 ∧ b = b2 ∧ c = c2))) H) ∨ (NotCol K CC H y ∧ Q (.bl false) H))
section
variable {P : Program} {w : World} {K : PySem.W.Frag} {mg : Str → Option Value} {base : Heap} {CC CT C : Addr}
theorem kit_self {D : Addr} : PySem.W.kitOne K (.ref D) (.ref D) = some true := by
  unfold PySem.W.kitOne
  rw [if_pos (beq_self_eq_true _)]
theorem scColE : FnScope ["self", "other"] ["self", "other"] (defScope sColE) := ⟨rfl, rfl, rfl, by decide +kernel, rfl, by decide +kernel, by decide +kernel⟩
theorem dec_if {c : Prop} [Decidable c] {k : Bool} {A B : Prop} (e : k = decide c) (h1 : c → A) (h2 : ¬ c → B) : if k = true then A else B := by
  subst e
  exact bool_ite h1 h2
theorem ok_colE {f : Addr} {fd : FuncData} (F : MethD K "__eq__" "Column.__eq__" sColE f fd) (T : TxtC K mg CC CT) : FnOk P w K mg base CX0 1 f fd ["self", "other"] (spColE K CC) := by
  refine F.ok scColE (fun vs H Q E h => ?_) (fun cdv A outer s H vs Q E hr h => ?_)
  · obtain ⟨p, y, z, a, b, c, rfl, _⟩ := h
    rfl
  · obtain ⟨p, y, z, a, b, c, rfl, ⟨dx, hp⟩, h⟩ := h
    refine ⟨_, PSs.nox (pss_one (ps_ret (pe_and (pe_callB call_isi (by rfl) T.isi (by decide +kernel) (pa_cons (pv 1) (pa_cons (pe_glob (v := .ref CC) rfl T.gC rfl) pa_nil)))
      (pe_and (pe_cmpR op_eq (pe_fld (pv 0) (by rfl)) (pe_fld (pv 1) (by rfl)) (nomark _)) (pe_and (pe_cmpR op_eq (pe_fld (pv 0) (by rfl)) (pe_fld (pv 1) (by rfl)) (nomark _))
        (pe_and (pe_cmpR op_eq (pe_fld (pv 0) (by rfl)) (pe_fld (pv 1) (by rfl)) (nomark _)) (pe_one (pe_cmpR op_eq (pe_fld (pv 0) (by rfl)) (pe_fld (pv 1) (by rfl)) (nomark _))))))))), ?_⟩
    rcases h with ⟨q, z2, a2, b2, c2, rfl, ⟨dq, hq⟩, k⟩ | ⟨⟨t, ht, kt⟩, k⟩
    · refine ⟨_, rfl, _, _, _, _, true, rfl, .own CC, .base (.ins hq T.cl T.ha T.hn T.ht T.hm), kit_self, true, rfl, iteT ?_⟩
      refine ⟨_, rfl, p, CC, dx, _, .str z, rfl, hp, T.cl, T.n1, colF_name _ _ _ _, _, rfl, q, CC, dq, _, .str z2, rfl, hq, T.cl, T.n1, colF_name _ _ _ _, rfl, _, rfl, dec_if rfl (fun e1 => ?_) (fun e1 => ?_)⟩
      · cases e1
        refine ⟨_, rfl, p, CC, dx, _, .bl a, rfl, hp, T.cl, T.n2, colF_large _ _ _ _, _, rfl, q, CC, dq, _, .bl a2, rfl, hq, T.cl, T.n2, colF_large _ _ _ _, rfl, _, rfl, dec_if rfl (fun e2 => ?_) (fun e2 => ?_)⟩
        · cases e2
          refine ⟨_, rfl, p, CC, dx, _, .bl b, rfl, hp, T.cl, T.n3, colF_fixed _ _ _ _, _, rfl, q, CC, dq, _, .bl b2, rfl, hq, T.cl, T.n3, colF_fixed _ _ _ _, rfl, _, rfl, dec_if rfl (fun e3 => ?_) (fun e3 => ?_)⟩
          · cases e3
            refine ⟨_, rfl, p, CC, dx, _, .bl c, rfl, hp, T.cl, T.n4, colF_empty _ _ _ _, _, rfl, q, CC, dq, _, .bl c2, rfl, hq, T.cl, T.n4, colF_empty _ _ _ _, rfl, ?_⟩
            have e4 : decide (V.bl c = V.bl c2) = decide (z = z ∧ a = a ∧ b = b ∧ c = c2) := by cases c <;> cases c2 <;> simp
            rw [e4]
            exact k
          · rw [decide_eq_false (fun h => e3 (by rw [h.2.2.1]))] at k
            exact k
        · rw [decide_eq_false (fun h => e2 (by rw [h.2.1]))] at k
          exact k
      · rw [decide_eq_false (fun h => e1 (by rw [h.1]))] at k
        exact k
    · exact ⟨_, rfl, _, _, _, _, false, rfl, .own CC, ht, kt, false, rfl, iteF k⟩
end
end Lw

set_option Elab.async false
set_option linter.all false
set_option maxRecDepth 100000
set_option maxHeartbeats 4000000
namespace Lw
open PySem PySem.Spec PyProof.Rows L2 Lg
/-! BadColumn(name) -/
def nmF (v : V) : List (Str × V) := [("name", v)]
def spBC (C : Addr) : Sp := fun vs H Q _ => ∃ (a : Addr) (v : V) (d : PyData), vs = [.ref a, v] ∧ Sh H v d ∧ H a = some (exo a C none) ∧
  ∀ (G : Hp) (v' : V), Same H G → Sh G v' d → ∀ dd, G dd = none → dd ≠ a → Q .non (upd (upd G dd (exd dd (nmF v'))) a (exo a C (some dd)))
structure TxtB (K : PySem.W.Frag) (mg : Str → Option Value) (C : Addr) : Prop where
  oex : OexC K C
  noA : PySem.W.findIn K (.ref C) "name" = some none
  gC : mg "BadColumn" = some (.ref C)
theorem Sh.move {H G : Hp} {v : V} {d : PyData} (h : Sh H v d) (k : ∀ b o, H b = some o → (∀ C, o ≠ exo b C none ∧ ∀ e, o ≠ exo b C e) → G b = some o) : Sh G v d := by
  cases h with
  | fl h => exact .fl h
  | lst h p n => exact .lst (k _ _ h fun C => ⟨fun e => (by cases e), fun x e => (by cases x <;> cases e)⟩) p n
  | tup h p n => exact .tup (k _ _ h fun C => ⟨fun e => (by cases e), fun x e => (by cases x <;> cases e)⟩) p n
  | dic h f => exact .dic (k _ _ h fun C => ⟨fun e => (by cases e), fun x e => (by cases x <;> cases e)⟩) f
theorem Sh.same {H G : Hp} {v : V} {d : PyData} (h : Sh H v d) (s : Same H G) : Sh G v d := h.move fun b o e _ => s b o e
section
variable {P : Program} {w : World} {K : PySem.W.Frag} {mg : Str → Option Value} {base : Heap} {C CT CC : Addr}
theorem scBC : FnScope ["self", "name"] ["self", "name"] (defScope sBC) := ⟨rfl, rfl, rfl, by decide +kernel, rfl, by decide +kernel, by decide +kernel⟩
theorem ok_bc {f : Addr} {fd : FuncData} (F : MethD K "__init__" "BadColumn.__init__" sBC f fd) (T : TxtB K mg C) (cC : Cal P w K mg base CX0 "copied" 2 ["value"] spCopy) : FnOk P w K mg base CX0 3 f fd ["self", "name"] (spBC C) := by
  refine F.ok scBC (fun vs H Q E h => ?_) (fun cdv A outer s H vs Q E hr h => ?_)
  · obtain ⟨a, v, d, rfl, _⟩ := h
    rfl
  · obtain ⟨a, v, d, rfl, hs, ha, k⟩ := h
    refine ⟨_, PSs.nox (pss_one (ps_ost (pv 0) (pe_cal cC hr (pa_cons (pv 1) pa_nil)))), ?_⟩
    exact ⟨_, rfl, v, d, rfl, hs, fun G v' sG hv' => ⟨_, rfl, a, C, rfl, T.oex, T.noA, .inl ⟨sG _ _ ha, fun dx hn ne => k G v' sG hv' dx hn ne⟩⟩⟩
structure BadC (P : Program) (w : World) (K : PySem.W.Frag) (mg : Str → Option Value) (base : Heap) (C : Addr) : Prop where
  T : TxtB K mg C
  ex : ∃ f fd, PySem.W.findIn K (.ref C) "__init__" = some (some (.ref f)) ∧ PySem.W.typeIn K (.ref f) = some (.type "function") ∧ FnOk P w K mg base CX0 3 f fd ["self", "name"] (spBC C) ∧ Binds K fd ["self", "name"] []
end
section
variable {X : Cx} {C : Addr} {e : Expr} {t : TA} {p pos pos2 : Pos} {W : WX}
theorem ps_badc (B : BadC X.prog X.w X.K X.mg X.base C) (hc : X.calm = true) (hr : Room 4 X.A) (tk : L2N.Takes X W) (ha : PA X [e] t) (hg : Gl X "BadColumn" := by rfl)
    (he : starEach [e] X.env = (false, eval e X.env) :: starEach [] X.env := by rfl) (hpl : (backTo pos (starEach [] X.env)).any (·.1) = false := by rfl) :
    PS X (.Raise (some (.Call (.Name "BadColumn" p) [e] [] pos)) none pos2) (fun _ σ H => tMkO C (spBC C) [] t σ H fun cls d H' => W cls d σ H') := by
  obtain ⟨f, fd, h1, h2, F, b⟩ := B.ex
  exact L2N.ps_raise hc tk (pmk_oexN B.T.oex h1 h2 F hr b .nil pass0 B.T.gC ha hg (by decide) he hpl)
end
theorem badc_tail {C : Addr} {v : V} {d : PyData} {H : Hp} {E : XK} (hs : Sh H v d) (k : ∀ dd G v', H dd = none → Same H G → G dd = some (.xd (nmF v')) → Sh G v' d → E (.ref C) (some dd) G) :
    ([v] : List V).length ≤ 1000 ∧ ∀ a, H a = none → spBC C (.ref a :: ([v] ++ [])) (upd H a (exo a C none)) (fun r H2 => r = .non ∧ ∃ (dd : Addr) (fs : List (Str × V)), H2 a = some (exo a C (some dd)) ∧ H2 dd = some (exd dd fs) ∧ H dd = none ∧ E (.ref C) (some dd) (upd (del H2 a) dd (.xd fs))) (fun _ _ _ => False) := by
  refine ⟨by show 1 ≤ 1000; decide, fun a na => ⟨a, v, d, rfl, hs.same (Lw.Same.new (Same.refl H) na), upd_same, fun G v' sG hv' dd nd da => ⟨rfl, dd, nmF v', upd_same, ?_, ?_, ?_⟩⟩⟩
  · rw [upd_ne da, upd_same]
  · cases e : H dd with
    | none => rfl
    | some o =>
      have z := sG dd o (by rw [upd_ne da]; exact e)
      rw [nd] at z
      cases z
  · have hd : H dd = none := by
      cases e : H dd with
      | none => rfl
      | some o =>
        have z := sG dd o (by rw [upd_ne da]; exact e)
        rw [nd] at z
        cases z
    have ga := sG a _ upd_same
    have at_ : ∀ b o, G b = some o → b ≠ a → (upd (del (upd (upd G dd (exd dd (nmF v'))) a (exo a C (some dd))) a) dd (.xd (nmF v'))) b = some o := fun b o e n => by
      have nb : b ≠ dd := fun z => by subst z; rw [nd] at e; cases e
      rw [upd_ne nb, del_ne n, upd_ne n, upd_ne nb]
      exact e
    refine k dd _ v' hd (fun b o e => ?_) upd_same (hv'.move fun b o e q => at_ b o e fun z => ?_)
    · have n := ne_of_none e na
      exact at_ b o (sG b o (by rw [upd_ne n]; exact e)) n
    · subst z
      rw [ga] at e
      cases e
      exact (q C).1 rfl
/-! Column(name, large=, fixed=, empty=) -/
def BadName (K : PySem.W.Frag) (H : Hp) (v : V) : Prop := (∃ z, v = .str z ∧ z.length ≤ 1000 ∧ (¬ IsWord z ∨ z = "key")) ∨ NotTy K H v "str"
def spColI (K : PySem.W.Frag) (CC C : Addr) : Sp := fun vs H Q E => ∃ (p dx : Addr) (v : V) (a b c : Bool), vs = [.ref p, v, .bl a, .bl b, .bl c] ∧ H p = some (.ins CC dx []) ∧
  ((∃ z, v = .str z ∧ IsWord z ∧ z ≠ "key" ∧ ∀ G, Keep p H G → Col CC G p z a b c → Q .non G) ∨
   (BadName K H v ∧ ∃ d, Sh H v d ∧ ∀ dd G v', H dd = none → Keep p H G → G dd = some (.xd (nmF v')) → Sh G v' d → E (.ref C) (some dd) G))
abbrev nCol : List Str := ["self", "name", "large", "fixed", "empty"]
abbrev ColD (K : PySem.W.Frag) (f : Addr) (fd : FuncData) : Prop := FunD K "__init__" "Column.__init__" (defArgs sColI) (defBody sColI) (defScope sColI) [] [("large", .bl false), ("fixed", .bl false), ("empty", .bl false)] f fd
section
variable {P : Program} {w : World} {K : PySem.W.Frag} {mg : Str → Option Value} {base : Heap} {CC CT C : Addr}
theorem scColI : FnScope nCol nCol (defScope sColI) := ⟨rfl, rfl, rfl, by decide +kernel, rfl, by decide +kernel, by decide +kernel⟩
theorem same_none {H H1 : Hp} {d : Addr} (s : Same H H1) (h : H1 d = none) : H d = none := by
  cases e : H d with
  | none => rfl
  | some o => rw [s _ _ e] at h; cases h
theorem ok_colI {f : Addr} {fd : FuncData} (F : ColD K f fd) (T : TxtC K mg CC CT) (B : BadC P w K mg base C) (cW : Cal P w K mg base CX0 "is_word" 1 ["value"] (spIsWord K)) : FnOk P w K mg base (L2N.CX P w) 5 f fd nCol (spColI K CC C) := by
  obtain ⟨uk, hk⟩ := T.key
  refine F.ok scColI (fun vs H Q E h => ?_) (fun cdv A outer s H vs Q E hr h => ?_)
  · obtain ⟨p, dx, v, a, b, c, rfl, _⟩ := h
    rfl
  · obtain ⟨p, dx, v, a, b, c, rfl, hp, h⟩ := h
    refine ⟨_, pss_cons (ps_if (PW.pt (pw_or (pt_not (pt_val (pe_cal cW (hr.mono (by decide)) (pa_cons (pv 1) pa_nil)))) (pw_or1 (pt_cmpR op_eq (pv 1) (ClX.pe_cval (pe_glob (v := .ref CT) rfl T.gT rfl)) (nomark _)))))
        (pss_one (ps_badc B rfl hr (L2N.takes_of rfl rfl rfl rfl) (pa_cons (pv 1) pa_nil))) pss_nil)
      (pss_cons (ps_fld (pv 0) (pv 1) rfl) (pss_cons (ps_fld (pv 0) (pv 2) rfl) (pss_cons (ps_fld (pv 0) (pv 3) rfl) (pss_one (ps_fld (pv 0) (pv 4) rfl))))), ?_⟩
    rcases h with ⟨z, rfl, hz, hne, k⟩ | ⟨bad, d, hs, k⟩
    · refine sq_if1 (fun b' H' => Same H H' ∧ b' = false) (fun Q q => ?_) ?_ ?_
      · refine ⟨_, rfl, _, _, rfl, .inl ⟨z, rfl, Nat.le_trans hz.2.1 (by decide), rfl⟩, fun H' s => ⟨_, rfl, ?_⟩⟩
        rw [isWordB_true hz]
        refine iteF ⟨_, rfl, CT, _, _, uk, rfl, T.rd, hk, rfl, _, rfl, q _ _ ⟨s, decide_eq_false fun e => hne (V.str.inj e)⟩⟩
      · rintro _ ⟨_, e⟩
        cases e
      rintro H1 ⟨s1, _⟩
      have p1 := s1 _ _ hp
      refine ⟨_, rfl, _, rfl, p, CC, dx, _, rfl, p1, T.cl, T.n1, (by show 0 < 1000; decide), _, rfl, _, rfl, p, CC, dx, _, rfl, upd_same, T.cl, T.n2, (by show 1 < 1000; decide), ?_⟩
      refine ⟨_, rfl, _, rfl, p, CC, dx, _, rfl, upd_same, T.cl, T.n3, ?_, _, rfl, _, rfl, p, CC, dx, _, rfl, upd_same, T.cl, T.n4, ?_, ?_⟩
      · have e1 : ¬ (("name" : Str) = "large") := by decide +kernel
        simp only [putF, e1, if_false]
        show 2 < 1000
        decide
      · have e1 : ¬ (("name" : Str) = "large") := by decide +kernel
        have e2 : ¬ (("name" : Str) = "fixed") := by decide +kernel
        have e4 : ¬ (("large" : Str) = "fixed") := by decide +kernel
        simp only [putF, e1, e2, e4, if_false]
        show 3 < 1000
        decide
      · refine k _ (fun x o n h => ?_) ⟨dx, upd_same⟩
        rw [upd_ne n, upd_ne n, upd_ne n, upd_ne n]
        exact s1 x o h
    · refine sq_if1 (fun b' H' => Same H H' ∧ b' = true) (fun Q q => ?_) ?_ ?_
      · rcases bad with ⟨z, rfl, zl, hz⟩ | nt
        · refine ⟨_, rfl, _, _, rfl, .inl ⟨z, rfl, zl, rfl⟩, fun H' s => ⟨_, rfl, ?_⟩⟩
          cases e : isWordB z with
          | false => exact iteT (q _ _ ⟨s, rfl⟩)
          | true =>
            have hw := (isWordB_iff z).mp e
            have hk2 : z = "key" := hz.resolve_left fun n => n hw
            subst hk2
            exact iteF ⟨_, rfl, CT, _, _, uk, rfl, T.rd, hk, rfl, _, rfl, q _ _ ⟨s, decide_eq_true rfl⟩⟩
        · exact ⟨_, rfl, _, _, rfl, .inr ⟨rfl, nt⟩, fun H' s => ⟨_, rfl, iteT (q _ _ ⟨s, rfl⟩)⟩⟩
      · rintro H1 ⟨s1, _⟩
        exact ⟨_, rfl, badc_tail (hs.same s1) fun dd G v' nd sG hG hv' => k dd G v' (same_none s1 nd) (Keep.of_same (s1.trans sG)) hG hv'⟩
      · rintro _ ⟨_, e⟩
        cases e
end
end Lw

set_option Elab.async false
set_option linter.all false
set_option maxRecDepth 100000
set_option maxHeartbeats 4000000
namespace Lw
open PySem PySem.Spec PyProof.Rows L2 Lg
abbrev sTold : Stmt := top 19
abbrev sFlags : Stmt := top 20
structure TxtU (K : PySem.W.Frag) (mg : Str → Option Value) (C CB CE : Addr) : Prop where
  isi : mg "isinstance" = none
  repr : mg "repr" = none
  gC : mg "BadColumn" = some (.ref C)
  gB : mg "BadTable" = some (.ref CB)
  gE : mg "CopiesError" = some (.ref CE)
  exc : ExcC K C
  xf : XfC K C
  noA : PySem.W.findIn K (.ref C) "name" = some none
  exm : PySem.W.exmOne K (.ref C) (.ref C) = some true
  kB : PySem.W.kitOne K (.ref C) (.ref CB) = some false
  kE : PySem.W.kitOne K (.ref C) (.ref CE) = some true
/-- Column, made in the law -/
structure ColM (P : Program) (w : World) (K : PySem.W.Frag) (mg : Str → Option Value) (base : Heap) (CC C fI : Addr) (fd : FuncData) : Prop where
  gC : mg "Column" = some (.ref CC)
  M : Mk K CC fI
  F : FnOk P w K mg base (L2N.CX P w) 5 fI fd nCol (spColI K CC C)
  D : ColD K fI fd
section
variable {K : PySem.W.Frag} {f : Addr} {fd : FuncData}
theorem col_b0 (F : ColD K f fd) : ∃ ds, Vals [.bl false, .bl false, .bl false] ds ∧ Binds K fd nCol ds :=
  F.binds0 2 (fun z => by cases z) rfl fun D doc pm an cdv ct us ks h1 h2 => match us, h1, ks, h2 with
    | [_, _], _, [_, _, _], _ => ⟨_, _, _, _, _, _, rfl, rfl, _, _, _, _, _, _, rfl, rfl, _, _, _, _, _, _, rfl, rfl, rfl⟩
theorem col_b3 (F : ColD K f fd) : ∃ mv : List Value, KBn K fd nCol 2 ["large", "fixed", "empty"] (fun us ws => us ++ (ws ++ mv)) (fun vs zs => vs ++ (zs ++ [])) :=
  F.kbinds0 2 ["large", "fixed", "empty"] [] (fun us mv ws => us ++ (ws ++ mv)) (fun z => by cases z) (fun q h => by cases h) (fun a b c => a.append (c.append b)) fun D doc pm an cdv ct us mv ws h1 h2 h3 => match us, h1, mv, h2, ws, h3 with
    | [_, _], _, [], _, [_, _, _], _ => rfl
def rot {α : Type} : List α → List α
  | e :: r => r ++ [e]
  | [] => []
theorem rot_vals : ∀ {vs : List V} {us : List Value}, Vals vs us → Vals (rot vs) (rot us)
  | _, _, .nil => .nil
  | _, _, .cons h r => Vals.append r (.cons h .nil)
/-- empty= first, then large=, fixed= -/
theorem col_bR (F : ColD K f fd) : ∃ mv : List Value, KBn K fd nCol 2 ["empty", "large", "fixed"] (fun us ws => us ++ (rot ws ++ mv)) (fun vs zs => vs ++ (rot zs ++ [])) :=
  F.kbinds0 2 ["empty", "large", "fixed"] [] (fun us mv ws => us ++ (rot ws ++ mv)) (fun z => by cases z) (fun q h => by cases h) (fun a b c => a.append ((rot_vals c).append b)) fun D doc pm an cdv ct us mv ws h1 h2 h3 => match us, h1, mv, h2, ws, h3 with
    | [_, _], _, [], _, [_, _, _], _ => rfl
theorem col_bL (F : ColD K f fd) : ∃ mv : List Value, KBn K fd nCol 2 ["large"] (fun us ws => us ++ (ws ++ mv)) (fun vs zs => vs ++ (zs ++ [.bl false, .bl false])) :=
  F.kbinds0 2 ["large"] [("fixed", .bl false), ("empty", .bl false)] (fun us mv ws => us ++ (ws ++ mv)) (fun z => by cases z) (fun q h => by simp at h; rcases h with rfl | rfl <;> simp) (fun a b c => a.append (c.append b)) fun D doc pm an cdv ct us mv ws h1 h2 h3 => match us, h1, mv, h2, ws, h3 with
    | [_, _], _, [_, _], _, [_], _ => ⟨_, _, _, _, _, _, rfl, rfl, _, _, _, _, _, _, rfl, rfl, rfl⟩
theorem col_bE (F : ColD K f fd) : ∃ mv : List Value, KBn K fd nCol 2 ["empty"] (fun us ws => us ++ (mv ++ ws)) (fun vs zs => vs ++ ([.bl false, .bl false] ++ zs)) :=
  F.kbinds0 2 ["empty"] [("large", .bl false), ("fixed", .bl false)] (fun us mv ws => us ++ (mv ++ ws)) (fun z => by cases z) (fun q h => by simp at h; rcases h with rfl | rfl <;> simp) (fun a b c => a.append (b.append c)) fun D doc pm an cdv ct us mv ws h1 h2 h3 => match us, h1, mv, h2, ws, h3 with
    | [_, _], _, [_, _], _, [_], _ => ⟨_, _, _, _, _, _, rfl, rfl, _, _, _, _, _, _, rfl, rfl, rfl⟩
def mid {α : Type} : List α → List α → List α
  | l :: r, ws => l :: (ws ++ r)
  | [], ws => ws
theorem mid_vals : ∀ {vs zs : List V} {us ws : List Value}, Vals vs us → Vals zs ws → Vals (mid vs zs) (mid us ws)
  | _, _, _, _, .nil, h => h
  | _, _, _, _, .cons h r, z => .cons h (Vals.append z r)
theorem col_bF (F : ColD K f fd) : ∃ mv : List Value, KBn K fd nCol 2 ["fixed"] (fun us ws => us ++ mid mv ws) (fun vs zs => vs ++ mid [.bl false, .bl false] zs) :=
  F.kbinds0 2 ["fixed"] [("large", .bl false), ("empty", .bl false)] (fun us mv ws => us ++ mid mv ws) (fun z => by cases z) (fun q h => by simp at h; rcases h with rfl | rfl <;> simp) (fun a b c => a.append (mid_vals b c)) fun D doc pm an cdv ct us mv ws h1 h2 h3 => match us, h1, mv, h2, ws, h3 with
    | [_, _], _, [_, _], _, [_], _ => ⟨_, _, _, _, _, _, rfl, rfl, _, _, _, _, _, _, rfl, rfl, rfl⟩
end
/-- what an own def that may raise is called with, where it does not -/
theorem pass_no {X : Cx} : Passes (L2N.CX X.prog X.w) X (fun _ _ _ => False) := fun _ _ _ _ _ _ _ c => by
  obtain ⟨_, _, _, _, _, _, _, _, _, _, _, _, z⟩ := c
  exact z.elim
theorem takesN {X : Cx} : L2N.Takes X (fun _ _ _ _ => False) := fun u s' h => by
  obtain ⟨_, _, _, _, _, _, _, _, _, _, _, _, _, _, _, _, z⟩ := h
  exact z.elim
def Tells (d : PyData) : Prop := d.showable = true ∧ d.depth ≤ 16 ∧ d.shown.length ≤ sizeLine
abbrev nTold : List Str := ["name", "large", "fixed", "empty", "column", "e", "wrong"]
def spTold (K : PySem.W.Frag) : Sp := fun vs H Q _ => ∃ (v : V) (a b c : Bool), vs = [v, .bl a, .bl b, .bl c] ∧
  ((∃ z, v = .str z ∧ IsWord z ∧ z ≠ "key" ∧ ∀ t G, Same H G → G t = some (.tup [.str "column", .str z, .bl a, .bl b, .bl c]) → Q (.ref t) G) ∨
   (BadName K H v ∧ ∃ d, Sh H v d ∧ Tells d ∧ ∀ t G, Same H G → G t = some (.tup [.str "error", .bl false, .str d.shown]) → Q (.ref t) G))
theorem keep_ins {H G : Hp} {x dx : Addr} {o u : HO} (hx : H x = none) (hd : H dx = none) (k : Keep x (upd (upd H dx o) x u) G) : Same H G := fun b z h => by
  refine k b z (ne_of_none h hx) ?_
  rw [upd_ne (ne_of_none h hx), upd_ne (ne_of_none h hd)]
  exact h
theorem col_new {K : PySem.W.Frag} {CC C : Addr} {H : Hp} {R : Addr → Hp → Prop} {E : XK} {z : Str} {a b c : Bool} (hz : IsWord z) (hne : z ≠ "key") (h : ∀ x G, Same H G → H x = none → Col CC G x z a b c → R x G) :
    ∀ x dx, H x = none → H dx = none → dx ≠ x → spColI K CC C [.ref x, .str z, .bl a, .bl b, .bl c] (upd (upd H dx (.own x)) x (.ins CC dx [])) (fun v H2 => v = .non ∧ R x H2) E := fun x dx hx hd n =>
  ⟨x, dx, .str z, a, b, c, rfl, upd_same, .inl ⟨z, rfl, hz, hne, fun G k hG => ⟨rfl, h x G (keep_ins hx hd k) hx hG⟩⟩⟩
section
variable {P : Program} {w : World} {K : PySem.W.Frag} {mg : Str → Option Value} {base : Heap} {CC CT C CB CE fI : Addr} {fdI : FuncData}
theorem scTold : FnScope nTold ["name", "large", "fixed", "empty"] (defScope sTold) := ⟨rfl, rfl, rfl, by decide +kernel, rfl, by decide +kernel, by decide +kernel⟩
theorem ok_told {f : Addr} {fd : FuncData} (F : FnP K "_law_told" sTold f fd) (T : TxtU K mg C CB CE) (TC : TxtC K mg CC CT) (M : ColM P w K mg base CC C fI fdI) (y : SysIn K) : FnG P w K mg base CX0 7 f fd ["name", "large", "fixed", "empty"] (spTold K) := by
  obtain ⟨m3, b3⟩ := col_b3 M.D
  refine okG F scTold (fun vs H Q E h => ?_) (fun cdv A outer s0 H vs Q E gd hr h => ?_)
  · obtain ⟨v, a, b, c, rfl, _⟩ := h
    rfl
  · obtain ⟨v, a, b, c, rfl, h⟩ := h
    have nd := scTold.nd
    have un : (A.deeper (envOfC "_law_told" (defScope sTold) s0.heap.objs.size f cdv)).units + 200 < cLine := by
      have := hr.un
      omega
    refine ⟨_, PSs.nox (pss_cons (L2N.ps_try_as (i := 5) (tb := fun W => tAsg (tMakeK CC 1 (["large", "fixed", "empty"] : List Str).length (spColI K CC C) (fun vs zs => vs ++ (zs ++ [])) (WL _ W) (tCons (tVar 0) tNil) (tCons (tVar 1) (tCons (tVar 2) (tCons (tVar 3) tNil)))) (gName 4))
        (ts := fun a cls d => tSeq (tAsg (tOrV (tCB (rIsED K cls d a) (tCons (tVar 5) (tCons (tC (.ref CB)) tNil))) (tNotV (tCB (rIsED K cls d a) (tCons (tVar 5) (tCons (tC (.ref CE)) tNil))))) (gName 6))
          (tRet (tTup (tCons (tC (.str "error")) (tCons (tVar 6) (tCons (tCB rRepr (tCons (tXf a cls d C "name" (tVar 5)) tNil)) tNil))))))
        (Wout := fun _ _ _ _ => False) rfl rfl scTold.nd rfl rfl ⟨rfl, by decide, Or.inl T.gC⟩ takesN
        (fun W pn xe tk _ => pss_one (ps_set (i := 4) nd rfl (Or.inl rfl) (pe_makeK M.M M.F hr (by rfl) M.gC b3 (passL tk) (by exact (pa_cons (pv 0) pa_nil)) (by exact (pk_cons (pv 1) (pk_cons (pv 2) (pk_cons (pv 3) pk_nil)))))))
        (fun a oe cls d pn hz hf => pss_cons (ps_set (i := 6) nd rfl (Or.inl rfl) (pe_or (pe_callB (call_isED hz.zc hf) (by rfl) T.isi (by decide +kernel) (pa_cons (pv 5) (pa_cons (pe_glob (v := .ref CB) rfl T.gB rfl) pa_nil)))
            (pe_one (pe_not (pe_callB (call_isED hz.zc hf) (by rfl) T.isi (by decide +kernel) (pa_cons (pv 5) (pa_cons (pe_glob (v := .ref CE) rfl T.gE rfl) pa_nil)))))))
          (pss_one (ps_ret (pe_tup (pa_cons pe_str (pa_cons (pv 6) (pa_cons (pe_callB (call_repr y gd un) (by rfl) T.repr (by decide +kernel) (pa_cons (pe_xf T.xf T.noA hz.zc hf (pv 5)) pa_nil)) pa_nil))))))))
      (pss_one (ps_ret (pe_tup (pa_cons pe_str (pa_cons (pe_fld (pv 4) (by rfl)) (pa_cons (pe_fld (pv 4) (by rfl)) (pa_cons (pe_fld (pv 4) (by rfl)) (pa_cons (pe_fld (pv 4) (by rfl)) pa_nil))))))))), ?_⟩
    rcases h with ⟨z, rfl, hz, hne, k⟩ | ⟨bad, d, hs, ⟨t1, t2, t3⟩, k⟩
    · refine ⟨_, rfl, _, rfl, _, rfl, _, rfl, rfl, rfl, col_new hz hne fun x G sG nx hG => ?_⟩
      obtain ⟨dx, hx⟩ := hG
      refine ⟨_, rfl, x, CC, dx, _, .str z, rfl, hx, TC.cl, TC.n1, colF_name _ _ _ _, _, rfl, x, CC, dx, _, .bl a, rfl, hx, TC.cl, TC.n2, colF_large _ _ _ _, _, rfl, x, CC, dx, _, .bl b, rfl, hx, TC.cl, TC.n3, colF_fixed _ _ _ _, _, rfl, x, CC, dx, _, .bl c, rfl, hx, TC.cl, TC.n4, colF_empty _ _ _ _, (by show 5 ≤ sizeLine; decide), fun t nt => ?_⟩
      exact k t _ (Lw.Same.new sG nt) upd_same
    · refine ⟨_, rfl, _, rfl, _, rfl, _, rfl, rfl, rfl, fun x dx hx hdx n => ?_⟩
      have sI : Same H (upd (upd H dx (.own x)) x (.ins CC dx [])) := fun b o e => by
        rw [upd_ne (ne_of_none e hx), upd_ne (ne_of_none e hdx)]
        exact e
      refine ⟨x, dx, v, a, b, c, rfl, upd_same, .inr ⟨?_, d, hs.same sI, ?_⟩⟩
      · exact bad.imp id (NotTy.same sI)
      · intro dd G v' nd kG hG hv' σ' hσ
        have sG := keep_ins hx hdx kG
        have h1 : ∀ q : Addr, (σ'.set 5 (some (.ref q)))[5]? = some (some (.ref q)) := fun q => List.getElem?_set_self (by rw [hσ]; show 5 < 7; decide)
        refine ⟨true, T.exm, fun _ q _ => ?_, fun e => Bool.noConfusion e⟩
        refine sq_set (fun r G2 => G = G2 ∧ r = .bl false) (fun Q' q' => ?_) ?_
        · refine ⟨_, h1 q, C, dd, .ref CB, .ref CB, false, _, rfl, rfl, T.exc, rfl, fun u r => r, hG, T.kB, false, rfl, iteF ?_⟩
          exact ⟨_, h1 q, C, dd, .ref CE, .ref CE, true, _, rfl, rfl, T.exc, rfl, fun u r => r, hG, T.kE, true, rfl, q' _ _ ⟨rfl, rfl⟩⟩
        · rintro _ _ ⟨rfl, rfl⟩
          have h2 : ((σ'.set 5 (some (.ref q))).set 6 (some (.bl false)))[6]? = some (some (.bl false)) := List.getElem?_set_self (by rw [List.length_set, hσ]; show 6 < 7; decide)
          have h3 : ((σ'.set 5 (some (.ref q))).set 6 (some (.bl false)))[5]? = some (some (.ref q)) := by rw [List.getElem?_set_ne (by decide)]; exact h1 q
          refine ⟨_, h2, _, h3, rfl, rfl, dd, _, v', rfl, hG, List.lookup_cons_self, v', d, rfl, hv'.da, t1, t2, t3, (by show 3 ≤ sizeLine; decide), fun t nt => ?_⟩
          exact k t _ (Lw.Same.new sG nt) upd_same
/-- the flags as six truths -/
def six (a b c : Bool) : List V := [.bl (decide (a = true)), .bl (decide (a = false)), .bl (decide (b = true)), .bl (decide (b = false)), .bl (decide (c = true)), .bl (decide (c = false))]
def spFlags (CC : Addr) : Sp := fun vs H Q _ => ∃ (p : Addr) (z : Str) (a b c : Bool), vs = [.ref p] ∧ Col CC H p z a b c ∧ ∀ l G, Same H G → G l = some (.lst (six a b c)) → Q (.ref l) G
theorem scFlags : FnScope ["column"] ["column"] (defScope sFlags) := ⟨rfl, rfl, rfl, by decide +kernel, rfl, by decide +kernel, by decide +kernel⟩
theorem ok_flags {f : Addr} {fd : FuncData} (F : FnP K "_law_flags_told" sFlags f fd) (TC : TxtC K mg CC CT) : FnOk P w K mg base CX0 1 f fd ["column"] (spFlags CC) := by
  refine F.ok scFlags (fun vs H Q E h => ?_) (fun cdv A outer s0 H vs Q E hr h => ?_)
  · obtain ⟨p, z, a, b, c, rfl, _⟩ := h
    rfl
  · obtain ⟨p, z, a, b, c, rfl, ⟨dx, hx⟩, k⟩ := h
    refine ⟨_, PSs.nox (pss_one (ps_ret (pe_lst (pa_cons (pe_cmpR op_isBl (pe_fld (pv 0) (by rfl)) pe_bl (nomark _)) (pa_cons (pe_cmpR op_isBl (pe_fld (pv 0) (by rfl)) pe_bl (nomark _)) (pa_cons (pe_cmpR op_isBl (pe_fld (pv 0) (by rfl)) pe_bl (nomark _))
      (pa_cons (pe_cmpR op_isBl (pe_fld (pv 0) (by rfl)) pe_bl (nomark _)) (pa_cons (pe_cmpR op_isBl (pe_fld (pv 0) (by rfl)) pe_bl (nomark _)) (pa_cons (pe_cmpR op_isBl (pe_fld (pv 0) (by rfl)) pe_bl (nomark _)) pa_nil))))))))), ?_⟩
    refine ⟨_, rfl, p, CC, dx, _, .bl a, rfl, hx, TC.cl, TC.n2, colF_large _ _ _ _, a, true, rfl, rfl, _, rfl, p, CC, dx, _, .bl a, rfl, hx, TC.cl, TC.n2, colF_large _ _ _ _, a, false, rfl, rfl, ?_⟩
    refine ⟨_, rfl, p, CC, dx, _, .bl b, rfl, hx, TC.cl, TC.n3, colF_fixed _ _ _ _, b, true, rfl, rfl, _, rfl, p, CC, dx, _, .bl b, rfl, hx, TC.cl, TC.n3, colF_fixed _ _ _ _, b, false, rfl, rfl, ?_⟩
    refine ⟨_, rfl, p, CC, dx, _, .bl c, rfl, hx, TC.cl, TC.n4, colF_empty _ _ _ _, c, true, rfl, rfl, _, rfl, p, CC, dx, _, .bl c, rfl, hx, TC.cl, TC.n4, colF_empty _ _ _ _, c, false, rfl, rfl, (by show 6 ≤ sizeLine; decide), fun l nl => ?_⟩
    exact k l _ (Lw.Same.new (Same.refl H) nl) upd_same
end
end Lw

set_option Elab.async false
set_option linter.all false
set_option maxRecDepth 100000
set_option maxHeartbeats 4000000
namespace Lw
open PySem PySem.Spec PyProof.Rows L2 Lg
/-! the odd values as data -/
def oddDs : List PyData := [.str "", .str "abcdefghi", .str "A", .str "aB", .str "a1", .str "a b", .str " a", .str "a_", .str "-", .none, .int 0, .int 1, .bool true, .bool false, .int (-7), .int (10 ^ 30), .tuple [.str "a"], .list [.str "a"], .dict [(.str "a", .str "b")], .tuple [], .list [], .str "key"]
def OddV (a : Addr) (H : Hp) (v : V) : Prop := v ≠ .ref a ∧ ∃ d, d ∈ oddDs ∧ Sh H v d
theorem Sh.keep {a : Addr} {H G : Hp} (k : Keep a H G) {v : V} {d : PyData} (n : v ≠ .ref a) (h : Sh H v d) : Sh G v d := by
  have ne : ∀ {p : Addr}, V.ref p ≠ V.ref a → p ≠ a := fun n e => n (by rw [e])
  cases h with
  | fl h => exact .fl h
  | lst h p m => exact .lst (k _ _ (ne n) h) p m
  | tup h p m => exact .tup (k _ _ (ne n) h) p m
  | dic h f => exact .dic (k _ _ (ne n) h) f
theorem OddV.keep {a : Addr} {H G : Hp} (k : Keep a H G) {v : V} (h : OddV a H v) : OddV a G v := by
  obtain ⟨n, d, m, s⟩ := h
  exact ⟨n, d, m, s.keep k n⟩
def spOdd2 : Sp := fun vs H Q _ => ∃ (a : Addr) (n : Nat), vs = [.ref a] ∧ Src H a n ∧ n ≤ 900000000 ∧ ∀ H' v, Keep a H H' → Src H' a (n + 1) → OddV a H' v → Q v H'
theorem odd_facts : ∀ d ∈ oddDs, (d.showable && (decide (d.depth ≤ 16) && (decide (d.shown.length ≤ sizeLine) && SeqAt.shaped (.tuple [.str "error", .bool false, .str d.shown])))) = true ∧ (match d with | .str z => decide (z.length ≤ 1000) && (!isWordB z || decide (z = "key")) | _ => true) = true := by
  decide +kernel
theorem odd_tells {d : PyData} (h : d ∈ oddDs) : Tells d := by
  obtain ⟨h1, h⟩ := Bool.and_eq_true_iff.mp (odd_facts d h).1
  obtain ⟨h2, h⟩ := Bool.and_eq_true_iff.mp h
  obtain ⟨h3, _⟩ := Bool.and_eq_true_iff.mp h
  exact ⟨h1, of_decide_eq_true h2, of_decide_eq_true h3⟩
theorem odd_shaped {d : PyData} (h : d ∈ oddDs) : SeqAt.shaped (.tuple [.str "error", .bool false, .str d.shown]) = true := by
  obtain ⟨_, h⟩ := Bool.and_eq_true_iff.mp (odd_facts d h).1
  obtain ⟨_, h⟩ := Bool.and_eq_true_iff.mp h
  exact (Bool.and_eq_true_iff.mp h).2
theorem odd_bad {K : PySem.W.Frag} {H : Hp} {v : V} {d : PyData} (hd : d ∈ oddDs) (h : Sh H v d) : BadName K H v := by
  cases h with
  | fl h =>
    cases h with
    | non => exact .inr ⟨_, ty_non, by decide +kernel⟩
    | bl b => exact .inr ⟨_, ty_bl b, by decide +kernel⟩
    | int i => exact .inr ⟨_, ty_int i, by decide +kernel⟩
    | str z =>
      have e := (odd_facts _ hd).2
      obtain ⟨e1, e2⟩ := Bool.and_eq_true_iff.mp (show (decide (z.length ≤ 1000) && (!isWordB z || decide (z = "key"))) = true from e)
      refine .inl ⟨z, rfl, of_decide_eq_true e1, ?_⟩
      rcases Bool.or_eq_true_iff.mp e2 with e3 | e3
      · exact .inl fun hw => by rw [isWordB_true hw] at e3; cases e3
      · exact .inr (of_decide_eq_true e3)
  | lst h p n => exact .inr ⟨_, .base (.lst h), by decide +kernel⟩
  | tup h p n => exact .inr ⟨_, .base (.tup h), by decide +kernel⟩
  | dic h f => exact .inr ⟨_, .base (.dK h), by decide +kernel⟩
theorem oddV_at {a : Addr} {H : Hp} {v : V} {d : PyData} (i : Nat) (n : v ≠ .ref a) (h : Sh H v d) (e : oddDs[i]? = some d) : OddV a H v := ⟨n, d, List.mem_of_getElem? e, h⟩
section
variable {P : Program} {w : World} {K : PySem.W.Frag} {mg : Str → Option Value} {base : Heap}
theorem ok_odd2 {f : Addr} {fd : FuncData} (F : FnP K "_law_odd" sOdd f fd) (cO : Cal P w K mg base CX0 "_law_of" 2 ["source", "some"] (spOf K)) : FnOk P w K mg base CX0 3 f fd ["source"] spOdd2 := by
  refine F.ok scOdd (fun vs H Q E h => ?_) (fun cdv A outer s0 H vs Q E hr h => ?_)
  · obtain ⟨a, n, rfl, _⟩ := h
    rfl
  · obtain ⟨a, n, rfl, hs, hn, k⟩ := h
    refine ⟨_, PSs.nox (pss_one (ps_ret (pe_cal cO hr (pa_cons (pv 0) (pa_cons (pe_lst (pa_cons pe_str (pa_cons pe_str (pa_cons pe_str (pa_cons pe_str (pa_cons pe_str (pa_cons pe_str (pa_cons pe_str (pa_cons pe_str (pa_cons pe_str
      (pa_cons pe_non (pa_cons pe_int (pa_cons pe_int (pa_cons pe_bl (pa_cons pe_bl (pa_cons (pe_un un_neg pe_int) (pa_cons (pe_op op_pow pe_int pe_int) (pa_cons (pe_tup (pa_cons pe_str pa_nil)) (pa_cons (pe_lst (pa_cons pe_str pa_nil))
      (pa_cons (pe_disp (pps_cons pe_str pe_str pps_nil) (by rfl) (by rfl) (fun z => by cases z) (by decide)) (pa_cons (pe_tup pa_nil) (pa_cons (pe_lst pa_nil) pa_nil)))))))))))))))))))))) pa_nil))))), ?_⟩
    refine ⟨_, rfl, _, rfl, _, _, rfl, rfl, ⟨by decide, by decide, by decide⟩, (by show 1 ≤ sizeLine; decide), fun t1 n1 => ⟨(by show 1 ≤ sizeLine; decide), fun l1 n2 => fun d1 n3 => ⟨upd_same, [(.inr "a", .str "b")], rfl, (by show 1 ≤ 15; decide), (by show 0 ≤ sizeLine; decide), fun t2 n4 => ⟨(by show 0 ≤ sizeLine; decide), fun l2 n5 => ⟨(by show 21 ≤ sizeLine; decide), fun L n6 => ?_⟩⟩⟩⟩⟩
    have s1 := Lw.Same.new (o := .tup [.str "a"]) (Same.refl H) n1
    have s2 := Lw.Same.new (o := .lst [.str "a"]) (Same.refl _) n2
    have s3 := same_new2 (o := .dK []) (u := .dK (mergeK [] [(.inr "a", .str "b")])) n3
    have s4 := Lw.Same.new (o := .tup []) (Same.refl _) n4
    have s5 := Lw.Same.new (o := .lst []) (Same.refl _) n5
    have s6 := Lw.Same.new (o := .lst [.str "", .str "abcdefghi", .str "A", .str "aB", .str "a1", .str "a b", .str " a", .str "a_", .str "-", .non, .int 0, .int 1, .bl true, .bl false, .int (-7), .int (10 ^ 30), .ref t1, .ref l1, .ref d1, .ref t2, .ref l2]) (Same.refl _) n6
    have e6 := s6
    have e5 := s5.trans e6
    have e4 := s4.trans e5
    have e3 := s3.trans e4
    have e2 := s2.trans e3
    have e1 := s1.trans e2
    have a1 : t1 ≠ a := hs.ne n1
    have a2 : l1 ≠ a := (hs.same s1).ne n2
    have a3 : d1 ≠ a := (hs.same (s1.trans s2)).ne n3
    have a4 : t2 ≠ a := (hs.same ((s1.trans s2).trans s3)).ne n4
    have a5 : l2 ≠ a := (hs.same (((s1.trans s2).trans s3).trans s4)).ne n5
    have a6 : L ≠ a := (hs.same ((((s1.trans s2).trans s3).trans s4).trans s5)).ne n6
    refine ⟨a, L, n, _, rfl, hs.same e1, by omega, a6, SqL.of upd_same, (fun z => by cases z), (by show 21 ≤ 100000; decide), fun H' x kp sr hx => ?_⟩
    have nr : ∀ {q : Addr}, q ≠ a → V.ref q ≠ V.ref a := fun n e => n (by cases e; rfl)
    refine k H' x ((Keep.of_same e1).trans kp) sr (OddV.keep kp ?_)
    simp only [List.mem_cons, List.not_mem_nil, or_false] at hx
    rcases hx with rfl | rfl | rfl | rfl | rfl | rfl | rfl | rfl | rfl | rfl | rfl | rfl | rfl | rfl | rfl | rfl | rfl | rfl | rfl | rfl | rfl
    · exact oddV_at 0 (fun e => by cases e) (.fl (.str _)) rfl
    · exact oddV_at 1 (fun e => by cases e) (.fl (.str _)) rfl
    · exact oddV_at 2 (fun e => by cases e) (.fl (.str _)) rfl
    · exact oddV_at 3 (fun e => by cases e) (.fl (.str _)) rfl
    · exact oddV_at 4 (fun e => by cases e) (.fl (.str _)) rfl
    · exact oddV_at 5 (fun e => by cases e) (.fl (.str _)) rfl
    · exact oddV_at 6 (fun e => by cases e) (.fl (.str _)) rfl
    · exact oddV_at 7 (fun e => by cases e) (.fl (.str _)) rfl
    · exact oddV_at 8 (fun e => by cases e) (.fl (.str _)) rfl
    · exact oddV_at 9 (fun e => by cases e) (.fl .non) rfl
    · exact oddV_at 10 (fun e => by cases e) (.fl (.int _)) rfl
    · exact oddV_at 11 (fun e => by cases e) (.fl (.int _)) rfl
    · exact oddV_at 12 (fun e => by cases e) (.fl (.bl _)) rfl
    · exact oddV_at 13 (fun e => by cases e) (.fl (.bl _)) rfl
    · exact oddV_at 14 (fun e => by cases e) (.fl (.int _)) rfl
    · exact oddV_at 15 (fun e => by cases e) (.fl (.int _)) rfl
    · exact oddV_at 16 (nr a1) (.tup (e2 _ _ upd_same) (.cons (.str _) .nil) (by show 1 ≤ 1000; decide)) rfl
    · exact oddV_at 17 (nr a2) (.lst (e3 _ _ upd_same) (.cons (.str _) .nil) (by show 1 ≤ 1000; decide)) rfl
    · exact oddV_at 18 (nr a3) (.dic (z := "a") (e4 _ _ upd_same) (.str _)) rfl
    · exact oddV_at 19 (nr a4) (.tup (e5 _ _ upd_same) .nil (by show 0 ≤ 1000; decide)) rfl
    · exact oddV_at 20 (nr a5) (.lst (e6 _ _ upd_same) .nil (by show 0 ≤ 1000; decide)) rfl
end
end Lw

set_option Elab.async false
set_option linter.all false
set_option maxRecDepth 100000
set_option maxHeartbeats 8000000
namespace Lw
open PySem PySem.Spec PyProof.Rows L2 Lg
abbrev sLaw : Stmt := top 21
abbrev nLaw : List Str := ["script", "place", "source", "name", "flags", "odd", "other", "turn", "second", "one", "two", "plain", "due", "k"]
theorem g_name {i : Nat} {v : V} {σ : L2.St} {H : Hp} {Q : L2.St → Hp → Prop} (h : Q (σ.set i (some v)) H) : gName i v σ H Q := h
/-- x, y = ..: a pair is made and taken apart -/
theorem sq_asg2 {te : TE} {u : TS} {D : Ends} {σ : L2.St} {H : Hp} {i j : Nat} {K : PySem.W.Frag} (P : V → V → Hp → Prop) (h : ∀ Q : VK, (∀ t x y H', H' t = some (.tup [x, y]) → P x y H' → Q (.ref t) H') → te σ H Q)
    (k : ∀ x y H', P x y H' → u D ((σ.set i (some x)).set j (some y)) H') : tSeq (tAsg te (gTup K 2 (gCons (gName i) (gCons (gName j) gNil)))) u D σ H :=
  h _ fun t x y H' ht p => ⟨t, _, rfl, SqT.of ht, rfl, x, _, rfl, y, _, rfl, rfl, k x y H' p⟩
theorem word_strOk {z : Str} (h : IsWord z) : PyData.canLay0 (.str z) = true := by
  show z.cps.all (· < 0x110000) = true
  rw [← Array.all_toList, List.all_eq_true]
  intro c hc
  have := h.2.2 c hc
  exact decide_eq_true (by omega)
theorem eqv_err (s : Str) : PyData.eqv (.tuple [.str "error", .bool false, .str s]) (.tuple [.str "error", .bool false, .str s]) = true := by simp [PyData.eqv, PyData.eqvAll]
theorem eqv_col (z : Str) (a b c : Bool) : PyData.eqv (.tuple [.str "column", .str z, .bool a, .bool b, .bool c]) (.tuple [.str "column", .str z, .bool a, .bool b, .bool c]) = true := by simp [PyData.eqv, PyData.eqvAll]
theorem shaped_col {z : Str} (hz : IsWord z) (a b c : Bool) : SeqAt.shaped (.tuple [.str "column", .str z, .bool a, .bool b, .bool c]) = true := by
  show ((PyData.canLay0 (.str "column") && (PyData.canLay0 (.str z) && (true && (true && (true && true))))) && decide (PyData.depth (.tuple [.str "column", .str z, .bool a, .bool b, .bool c]) ≤ 64)) = true
  have e1 : PyData.canLay0 (.str "column") = true := by decide +kernel
  have e2 : PyData.depth (.tuple [.str "column", .str z, .bool a, .bool b, .bool c]) = 1 := by simp [PyData.depth, PyData.depthAll]
  rw [word_strOk hz, e1, e2]
  rfl
theorem ite_same {x : V} {A B : Prop} (b : B) : if (!decide (x = x)) = true then A else B := by
  rw [decide_eq_true rfl]
  exact b
def Bas (H0 : Hp) (p : Addr) (H : Hp) : Prop := ∀ b o, H0 b = some o → b ≠ p ∧ H b = some o
theorem Bas.keep {H0 H H' : Hp} {p : Addr} (h : Bas H0 p H) (k : Keep p H H') : Bas H0 p H' := fun b o e => ⟨(h b o e).1, k b o (h b o e).1 (h b o e).2⟩
theorem Bas.out {H0 H : Hp} {p : Addr} (h : Bas H0 p H) : Same H0 H := fun b o e => (h b o e).2
theorem Bas.set {H0 H : Hp} {p b : Addr} {o : HO} (h : Bas H0 p H) (n : H0 b = none) : Bas H0 p (upd H b o) := fun c u e => ⟨(h c u e).1, by rw [upd_ne (ne_of_none e n)]; exact (h c u e).2⟩
theorem Src.set {H : Hp} {a b : Addr} {n : Nat} {o : HO} (h : Src H a n) (ne : b ≠ a) : Src (upd H b o) a n := by
  obtain ⟨d, s, t, e, r⟩ := h
  exact ⟨d, s, t, by rw [upd_ne ne.symm]; exact e, r⟩
theorem int_ite {i j : Int} {A B : Prop} (h1 : i = j → A) (h2 : i ≠ j → B) : if decide (V.int i = V.int j) = true then A else B := by
  by_cases e : i = j
  · rw [if_pos (by rw [decide_eq_true_eq, e])]; exact h1 e
  · rw [if_neg (by rw [decide_eq_true_eq]; exact fun z => e (V.int.inj z))]; exact h2 e
theorem ite_eq {x y : V} {A B : Prop} (h : x = y) (b : B) : if (!decide (x = y)) = true then A else B := by
  subst h
  exact ite_same b
theorem ne_same {x y : V} (h : x = y) : (!decide (x = y)) = false := by rw [decide_eq_true h]; rfl
/-- if c: s; then the rest, for both -/
theorem sq_join {c : TT} {t1 u : TS} {D : Ends} {σ : L2.St} {H : Hp} (P : Bool → Hp → Prop) (P2 : Hp → Prop) (h : ∀ Q : Bool → Hp → Prop, (∀ b H', P b H' → Q b H') → c σ H Q)
    (kt : ∀ H', P true H' → ∀ D' : Ends, (∀ G, P2 G → D'.nx σ G) → t1 D' σ H') (kf : ∀ H', P false H' → P2 H') (k : ∀ G, P2 G → u D σ G) : tSeq (tIfS c t1 tNext) u D σ H :=
  sq_if P h (fun H' p => kt H' p _ k) (fun H' p => k H' (kf H' p))
theorem nf_self {K : PySem.W.Frag} {C : Addr} : PySem.W.notFirst K C (.ref C) = true := by
  unfold PySem.W.notFirst
  rw [beq_self_eq_true, Bool.true_or]
theorem ite_no {b : Bool} {A B : Prop} (h : b = false) (x : B) : if b = true then A else B := by
  subst h
  exact x
theorem shaped6 (a b c d e f : Bool) : SeqAt.shaped (.list [.bool a, .bool b, .bool c, .bool d, .bool e, .bool f]) = true := by
  simp [SeqAt.shaped, PyData.canLay0, PyData.canLayAll0, PyData.depth, PyData.depthAll]
theorem shaped3 (a b c : Bool) : SeqAt.shaped (.list [.bool a, .bool b, .bool c]) = true := by
  simp [SeqAt.shaped, PyData.canLay0, PyData.canLayAll0, PyData.depth, PyData.depthAll]
theorem due_eqv (a b c : Bool) : PyData.eqv (.list [.bool (decide (a = true)), .bool (decide (a = false)), .bool (decide (b = true)), .bool (decide (b = false)), .bool (decide (c = true)), .bool (decide (c = false))])
    (.list [.bool (decide (V.bl a = V.bl true)), .bool (decide (V.bl a = V.bl false)), .bool (decide (V.bl b = V.bl true)), .bool (decide (V.bl b = V.bl false)), .bool (decide (V.bl c = V.bl true)), .bool (decide (V.bl c = V.bl false))]) = true := by
  cases a <;> cases b <;> cases c <;> decide +kernel
theorem plain_eqv (z : Str) (a b c : Bool) : decide (z = z ∧ false = a ∧ false = b ∧ false = c) = PyData.eqv (.list [.bool a, .bool b, .bool c]) (.list [.bool false, .bool false, .bool false]) := by
  cases a <;> cases b <;> cases c <;> simp [PyData.eqv, PyData.eqvAll]
def dueL (a b c : Bool) : List V := [.bl (decide (V.bl a = V.bl true)), .bl (decide (V.bl a = V.bl false)), .bl (decide (V.bl b = V.bl true)), .bl (decide (V.bl b = V.bl false)), .bl (decide (V.bl c = V.bl true)), .bl (decide (V.bl c = V.bl false))]
abbrev f3 (a b c : Bool) : List V := [.bl a, .bl b, .bl c]
def spLaw (K : PySem.W.Frag) : Sp := fun vs H Q _ => ∃ (a : Addr) (ns : List Int), vs = [.ref a] ∧ SqL K H a (ns.map V.int) ∧ ns.length ≤ 63 ∧ ∀ H', Q (.bl true) H'
def eqTys : List String := ["NoneType", "str", "tuple"]
structure Cals (P : Program) (w : World) (K : PySem.W.Frag) (mg : Str → Option Value) (base : Heap) (CC fE : Addr) (fdE : FuncData) : Prop where
  src : Cal P w K mg base CX0 "_law_source" 1 ["script", "place"] (spSource K)
  draw : Cal P w K mg base CX0 "_law_draw" 1 ["source", "many"] spDraw
  of : Cal P w K mg base CX0 "_law_of" 2 ["source", "some"] (spOf K)
  word : Cal P w K mg base CX0 "_law_word" 2 ["source", "taken"] (spWord K)
  odd : Cal P w K mg base CX0 "_law_odd" 3 ["source"] spOdd2
  told : CalG P w K mg base CX0 "_law_told" 7 ["name", "large", "fixed", "empty"] (spTold K)
  flags : Cal P w K mg base CX0 "_law_flags_told" 1 ["column"] (spFlags CC)
  range : mg "range" = none
  max : mg "max" = none
  min : mg "min" = none
  len : mg "len" = none
  list : mg "list" = none
  repr : mg "repr" = none
  eqc : Oe.EqC K CC fE
  FE : FnOk P w K mg base CX0 1 fE fdE ["self", "other"] (spColE K CC)
  bE : Binds K fdE ["self", "other"] []
  nf : ∀ t ∈ eqTys, PySem.W.notFirst K CC (.type t) = true
  no : ∀ t ∈ eqTys, PySem.W.kitOne K (.type t) (.ref CC) = some false
section
variable {P : Program} {w : World} {K : PySem.W.Frag} {mg : Str → Option Value} {base : Heap} {CC CT C fI fE : Addr} {fdI fdE : FuncData}
theorem scLaw : FnScope nLaw ["script"] (defScope sLaw) := ⟨rfl, rfl, rfl, by decide +kernel, rfl, by decide +kernel, by decide +kernel⟩
theorem ok_law {f : Addr} {fd : FuncData} (F : FnP K "law" sLaw f fd) (c : Cals P w K mg base CC fE fdE) (TC : TxtC K mg CC CT) (M : ColM P w K mg base CC C fI fdI) (y : SysIn K) : FnG P w K mg base CX0 8 f fd ["script"] (spLaw K) := by
  obtain ⟨ds, vd, b0⟩ := col_b0 M.D
  obtain ⟨m3, b3⟩ := col_b3 M.D
  obtain ⟨mR, bR⟩ := col_bR M.D
  obtain ⟨mL, bL⟩ := col_bL M.D
  obtain ⟨mF, bF⟩ := col_bF M.D
  obtain ⟨mE, bE⟩ := col_bE M.D
  refine okG F scLaw (fun vs H Q E h => ?_) (fun cdv A outer s0 H vs Q E gd hr h => ?_)
  · obtain ⟨a, ns, rfl, _⟩ := h
    rfl
  · obtain ⟨a, ns, rfl, hS, hlen, k⟩ := h
    have nd := scLaw.nd
    have h1 : Room 1 _ := hr.mono (by decide)
    have h2 : Room 2 _ := hr.mono (by decide)
    have h3 : Room 3 _ := hr.mono (by decide)
    have h6 : Room 6 _ := hr.mono (by decide)
    have hu := hu_of hr
    have un : (A.deeper (envOfC "law" (defScope sLaw) s0.heap.objs.size f cdv)).units + 200 < cLine := by
      have := hr.un
      omega
    refine ⟨_, PSs.nox (pss_cons (ps_for PassesOwn.never rfl (pi_range1 rfl c.range (pa_cons (pe_callB (call_max2 rfl) (by rfl) c.max (by decide +kernel) (pa_cons pe_int (pa_cons (pe_callB (call_min2 rfl) (by rfl) c.min (by decide +kernel) (pa_cons pe_int (pa_cons (pe_callB call_len_seq (by rfl) c.len PySem.boot_len (pa_cons (pv 0) pa_nil)) pa_nil))) pa_nil))) pa_nil))
        (pg_name (i := 1) nd rfl (Or.inl rfl))
        (pss_cons (ps_set (i := 2) nd rfl (Or.inr rfl) (pe_cal c.src h1 (pa_cons (pv 0) (pa_cons (pv 1) pa_nil))))
        (pss_cons (ps_asg (pe_tup (pa_cons (pe_cal c.word h2 (pa_cons (pv 2) (pa_cons (pe_lst (pa_cons pe_str pa_nil)) pa_nil))) (pa_cons (pe_lc (own := [("k", 13)]) (g := gName 13) (tt := tYes) rfl nd (pi_range1 rfl c.range (pa_cons pe_int pa_nil)) (blkOk_by (N := nLaw) (sc := defScope sLaw) (by decide +kernel))
            (fun _ _ _ _ _ => pg_name (i := 13) nd rfl (Or.inl rfl)) (fun _ _ _ _ _ => pts_nil) (fun _ _ _ _ _ => pe_cmpR op_eq (pe_cal c.draw h1 (pa_cons (pv 2) (pa_cons pe_int pa_nil))) pe_int (nomark _))) pa_nil)))
          (pg_tup (by rfl) (pgs_cons (pg_name (i := 3) nd rfl (Or.inl rfl)) (pgs_cons (pg_name (i := 4) nd rfl (Or.inr rfl)) pgs_nil))))
        (pss_cons (ps_set (i := 5) nd rfl (Or.inl rfl) (pe_cal c.of h2 (pa_cons (pv 2) (pa_cons (pe_lst (pa_cons (pe_cal c.odd h3 (pa_cons (pv 2) pa_nil)) (pa_cons pe_str pa_nil))) pa_nil))))
        (pss_cons (ps_if (pt_cmpR (op_neD hr.units) (pe_calG c.told gd hr (pa_cons (pv 5) (pa_cons (pe_ix ix_list (pv 4) pe_int (fun _ _ => rfl)) (pa_cons (pe_ix ix_list (pv 4) pe_int (fun _ _ => rfl)) (pa_cons (pe_ix ix_list (pv 4) pe_int (fun _ _ => rfl)) pa_nil)))))
            (pe_tup (pa_cons pe_str (pa_cons pe_bl (pa_cons (pe_callB (call_repr y gd un) (by rfl) c.repr (by decide +kernel) (pa_cons (pv 5) pa_nil)) pa_nil)))) (nomark _)) (pss_one (ps_ret pe_bl)) pss_nil)
        (pss_cons (ps_if (pt_cmpR (op_neD hr.units) (pe_calG c.told gd hr (pa_cons (pv 3) (pa_cons (pe_ix ix_list (pv 4) pe_int (fun _ _ => rfl)) (pa_cons (pe_ix ix_list (pv 4) pe_int (fun _ _ => rfl)) (pa_cons (pe_ix ix_list (pv 4) pe_int (fun _ _ => rfl)) pa_nil)))))
            (pe_tup (pa_cons pe_str (pa_cons (pv 3) (pa_cons (pe_ix ix_list (pv 4) pe_int (fun _ _ => rfl)) (pa_cons (pe_ix ix_list (pv 4) pe_int (fun _ _ => rfl)) (pa_cons (pe_ix ix_list (pv 4) pe_int (fun _ _ => rfl)) pa_nil)))))) (nomark _)) (pss_one (ps_ret pe_bl)) pss_nil)
        (pss_cons (ps_par (i := 6) (j := 7) (by rfl) nd rfl rfl (by decide) rfl rfl (pa_cons (pe_callTy call_list_of (by rfl) c.list (by decide +kernel) (pa_cons (pv 4) pa_nil)) (pa_cons (pe_cal c.draw h1 (pa_cons (pv 2) (pa_cons pe_int pa_nil))) pa_nil)) (by rfl))
        (pss_cons (ps_set (i := 8) nd rfl (Or.inl rfl) (pe_ifExp (pt_cmpR op_eq (pv 7) pe_int (nomark _)) (pe_cal c.word h2 (pa_cons (pv 2) (pa_cons (pe_lst (pa_cons pe_str (pa_cons (pv 3) pa_nil))) pa_nil))) (pv 3)))
        (pss_cons (ps_if (pt_cmpR op_lt (pv 7) pe_int (nomark _)) (pss_one (ps_asg (pe_not (pe_ix ix_list (pv 6) (pv 7) (fun _ _ => rfl))) (pg_sub (pv 6) (pv 7) set_list))) pss_nil)
        (pss_cons (ps_set (i := 9) nd rfl (Or.inl rfl) (pe_makeK M.M M.F h6 (by rfl) M.gC b3 pass_no (pa_cons (pv 3) pa_nil) (pk_cons (pe_ix ix_list (pv 4) pe_int (fun _ _ => rfl)) (pk_cons (pe_ix ix_list (pv 4) pe_int (fun _ _ => rfl)) (pk_cons (pe_ix ix_list (pv 4) pe_int (fun _ _ => rfl)) pk_nil)))))
        (pss_cons (ps_set (i := 10) nd rfl (Or.inl rfl) (pe_makeK M.M M.F h6 (by rfl) M.gC bR pass_no (pa_cons (pv 8) pa_nil) (pk_cons (pe_ix ix_list (pv 6) pe_int (fun _ _ => rfl)) (pk_cons (pe_ix ix_list (pv 6) pe_int (fun _ _ => rfl)) (pk_cons (pe_ix ix_list (pv 6) pe_int (fun _ _ => rfl)) pk_nil)))))
        (pss_cons (ps_if (PW.pt (pw_or (pt_cmpR op_ne (pe_cmpR (Oe.op_eqI c.eqc c.FE c.bE h1) (pv 9) (pv 10) (nomark _)) (pe_cmpR op_eq (pv 7) pe_int (nomark _)) (nomark _))
            (pw_or1 (pt_cmpR op_ne (pe_cmpR (Oe.op_neI c.eqc c.FE c.bE h2) (pv 9) (pv 10) (nomark _)) (pe_cmpR op_ne (pv 7) pe_int (nomark _)) (nomark _))))) (pss_one (ps_ret pe_bl)) pss_nil)
        (pss_cons (ps_if (PW.pt (pw_or (pt_cmpR (Oe.op_eqI c.eqc c.FE c.bE h1) (pv 9) (pv 3) (nomark _)) (pw_or (pt_cmpR (Oe.op_eqI c.eqc c.FE c.bE h1) (pv 9) pe_non (nomark _))
            (pw_or1 (pt_cmpR (Oe.op_eqI c.eqc c.FE c.bE h1) (pv 9) (pe_tup (pa_cons (pv 3) (pa_cons (pe_ix ix_list (pv 4) pe_int (fun _ _ => rfl)) (pa_cons (pe_ix ix_list (pv 4) pe_int (fun _ _ => rfl)) (pa_cons (pe_ix ix_list (pv 4) pe_int (fun _ _ => rfl)) pa_nil))))) (nomark _)))))) (pss_one (ps_ret pe_bl)) pss_nil)
        (pss_cons (ps_set (i := 11) nd rfl (Or.inl rfl) (pe_make M.M M.F h6 (by rfl) M.gC b0 vd pass_no (pa_cons (pv 3) pa_nil)))
        (pss_cons (ps_if (PW.pt (pw_or (pt_cmpR (op_neD hr.units) (pe_cal c.flags h1 (pa_cons (pv 11) pa_nil)) (pe_lst (pa_cons pe_bl (pa_cons pe_bl (pa_cons pe_bl (pa_cons pe_bl (pa_cons pe_bl (pa_cons pe_bl pa_nil))))))) (nomark _))
            (pw_or1 (pt_cmpR op_ne (pe_fld (pv 11) (by rfl)) (pv 3) (nomark _))))) (pss_one (ps_ret pe_bl)) pss_nil)
        (pss_cons (ps_setLc (i := 12) (own := [("k", 13)]) (g := gName 13) (tt := tYes) rfl nd rfl rfl (sw_true rfl rfl rfl (by decide +kernel)) (pi_range1 rfl c.range (pa_cons pe_int pa_nil)) (blkOk_by (N := nLaw) (sc := defScope sLaw) (by decide +kernel))
            (fun _ _ _ _ _ => pg_name (i := 13) nd rfl (Or.inl rfl)) (fun _ _ _ _ _ => pts_nil) (fun _ _ _ _ _ => pe_cmpR op_eq (pe_ix (r := rIxL K) (by exact ix_list) (pv 4) (pe_op op_fdivN (pv 13) pe_int) (fun _ _ => rfl)) (pe_cmpR op_eq (pe_op op_modN (pv 13) pe_int) pe_int (nomark _)) (nomark _)))
        (pss_cons (ps_if (PW.pt (pw_or (pt_cmpR (op_neD hr.units) (pe_cal c.flags h1 (pa_cons (pv 9) pa_nil)) (pv 12) (nomark _))
            (pw_or1 (pt_cmpR op_ne (pe_cmpR (Oe.op_eqI c.eqc c.FE c.bE h1) (pv 11) (pv 9) (nomark _)) (pe_cmpR (op_eqD hr.units) (pv 4) (pe_lst (pa_cons pe_bl (pa_cons pe_bl (pa_cons pe_bl pa_nil)))) (nomark _)) (nomark _))))) (pss_one (ps_ret pe_bl)) pss_nil)
        (pss_one (ps_if (pt_cmpR (op_neD hr.units) (pe_lst (pa_cons (pe_fld (pe_makeK M.M M.F h6 (by rfl) M.gC bL pass_no (pa_cons (pv 3) pa_nil) (pk_cons pe_bl pk_nil)) (by rfl)) (pa_cons (pe_fld (pe_makeK M.M M.F h6 (by rfl) M.gC bF pass_no (pa_cons (pv 3) pa_nil) (pk_cons pe_bl pk_nil)) (by rfl))
            (pa_cons (pe_fld (pe_makeK M.M M.F h6 (by rfl) M.gC bE pass_no (pa_cons (pv 3) pa_nil) (pk_cons pe_bl pk_nil)) (by rfl)) pa_nil)))) (pe_op op_rep (pe_lst (pa_cons pe_bl pa_nil)) pe_int) (nomark _)) (pss_one (ps_ret pe_bl)) pss_nil)))))))))))))))))))
      (pss_one (ps_ret pe_bl))), ?_⟩
    have hb : ∀ L : Int, 0 ≤ L → 1 ≤ (if (if L < 40 then L else 40) > 1 then (if L < 40 then L else 40) else 1) ∧ (if (if L < 40 then L else 40) > 1 then (if L < 40 then L else 40) else 1) ≤ 40 := fun L h => by split <;> split <;> omega
    have hb2 := hb (((ns.map V.int).length : Nat) : Int) (by omega)
    refine ⟨_, rfl, a, _, rfl, .inl hS, _, _, rfl, _, _, rfl, _, rfl, by omega, by omega, ?_⟩
    refine for_range (lo := 0) (fun j σ H' => ∃ v1 v2 v3 v4 v5 v6 v7 v8 v9 v10 v11 v12 v13 : Option V, σ = [some (.ref a), v1, v2, v3, v4, v5, v6, v7, v8, v9, v10, v11, v12, v13] ∧ Same H H') ⟨_, _, _, _, _, _, _, _, _, _, _, _, _, rfl, Same.refl H⟩ ?_ ?_
    · rintro j σ H' hj ⟨v1, v2, v3, v4, v5, v6, v7, v8, v9, v10, v11, v12, v13, rfl, sH⟩
      have hj2 : (j : Int) < 40 := by omega
      refine g_name ?_
      refine sq_set (fun x H1 => ∃ p, x = .ref p ∧ Bas H p H1 ∧ Src H1 p 0) (fun Q q => ?_) ?_
      · refine ⟨_, rfl, _, rfl, a, ns, _, rfl, sH.seq hS, by omega, by omega, by omega, fun p H1 np s1 hs => q _ _ ⟨p, rfl, fun b o e => ⟨ne_of_none (sH b o e) np, s1 b o (sH b o e)⟩, hs⟩⟩
      rintro _ H1 ⟨p, rfl, B1, S1⟩
      refine sq_asg2 (fun x w H2 => ∃ (z : Str) (f0 f1 f2 : Bool) (fl : Addr), x = .str z ∧ w = .ref fl ∧ IsWord z ∧ z ≠ "key" ∧ fl ≠ p ∧ H2 fl = some (.lst (f3 f0 f1 f2)) ∧ Bas H p H2 ∧ Src H2 p 13) (fun Q q => ?_) ?_
      · refine ⟨_, rfl, (by show 1 ≤ sizeLine; decide), fun L nL => ⟨p, L, 0, ["key"], rfl, S1.new nL, by omega, S1.ne nL, SqL.of upd_same, by decide, fun H3 z k3 s3 hz hnz => ?_⟩⟩
        have B3 := B1.keep (((Keep.refl H1).new nL).trans k3)
        refine ⟨_, rfl, by decide, by decide, fun D nD => ?_⟩
        have Dp' : D ≠ p := s3.ne nD
        refine lc_range (lo := 0) (fun i H' => ∃ bs : List Bool, H' D = some (.lst (bs.map V.bl)) ∧ bs.length = i ∧ Bas H p H' ∧ Src H' p (10 + i)) ⟨[], upd_same, rfl, B3.keep ((Keep.refl H3).new nD), s3.new nD⟩ ?_ ?_
        · rintro i H' hi ⟨bs, hd, hl, BB, ss⟩
          have hi2 : i < 3 := hi
          refine ⟨rfl, _, rfl, p, _, _, rfl, ss, by omega, by decide, by decide, fun H5 x k5 s5 z0 z1 => ⟨rfl, _, k5 _ _ Dp' hd, by rw [List.length_map, hl]; exact Nat.lt_trans hi2 (by decide), bs ++ [decide (V.int x = V.int 1)], ?_, by rw [List.length_append, hl]; rfl, ?_, ?_⟩⟩
          · rw [upd_same, List.map_append]; rfl
          · exact (BB.keep k5).set (by
              cases e : H D with
              | none => rfl
              | some o => have z := (B3 D o e).2; rw [nD] at z; cases z)
          · exact (s5.set Dp').mono (by omega)
        · rintro H' ⟨bs, hd, hl, BB, ss⟩
          have hl3 : bs.length = 3 := hl
          match bs, hl3 with
          | [f0, f1, f2], _ =>
            refine ⟨(by show 2 ≤ sizeLine; decide), fun t nt => q t _ _ _ upd_same ⟨z, f0, f1, f2, D, rfl, rfl, hz, fun e => hnz (by rw [e]; exact List.mem_singleton.mpr rfl), Dp', ?_, BB.keep ((Keep.refl H').new nt), ss.new nt⟩⟩
            exact (Lw.Same.new (Same.refl H') nt) _ _ hd
      rintro _ _ H2 ⟨z, f0, f1, f2, fl, rfl, rfl, hz, hzk, flp, hfl, B2, S2⟩
      refine sq_set (fun x G => OddV p G x ∧ Keep p H2 G ∧ Src G p 20) (fun Q q => ?_) ?_
      · refine ⟨_, rfl, _, rfl, p, _, rfl, S2, by omega, fun G3 v k3 s3 hv => ⟨(by show 2 ≤ sizeLine; decide), fun L nL => ⟨p, L, _, _, rfl, s3.new nL, by omega, s3.ne nL, SqL.of upd_same, (fun z => by cases z), (by show 2 ≤ 100000; decide), fun G4 x k4 s4 hx => q x G4 ⟨?_, k3.trans (((Keep.refl G3).new nL).trans k4), s4.mono (by omega)⟩⟩⟩⟩
        simp only [List.mem_cons, List.not_mem_nil, or_false] at hx
        rcases hx with rfl | rfl
        · exact OddV.keep (((Keep.refl G3).new nL).trans k4) hv
        · exact oddV_at 21 (fun e => by cases e) (.fl (.str _)) rfl
      rintro v3' G ⟨⟨vp, d, hd, hsh⟩, kG, SG⟩
      have gfl := kG _ _ flp hfl
      have BG := B2.keep kG
      refine sq_if1 (fun b' G1 => b' = false ∧ Same G G1) (fun Q q => ?_) ?_ ?_
      · refine ⟨_, rfl, _, rfl, fl, _, _, _, rfl, rfl, SqL.of gfl, rfl, _, rfl, fl, _, _, _, rfl, rfl, SqL.of gfl, rfl, _, rfl, fl, _, _, _, rfl, rfl, SqL.of gfl, rfl, v3', f0, f1, f2, rfl, .inr ⟨odd_bad hd hsh, d, hsh, odd_tells hd, fun t G1 s1 ht => ?_⟩⟩
        obtain ⟨t1, t2, t3⟩ := odd_tells hd
        refine ⟨_, rfl, v3', d, rfl, (hsh.same s1).da, t1, t2, t3, (by show 3 ≤ sizeLine; decide), fun u nu => ?_⟩
        have s2 := Lw.Same.new (o := .tup [.str "error", .bl false, .str d.shown]) (Same.refl G1) nu
        refine ⟨.tuple [.str "error", .bool false, .str d.shown], .tuple [.str "error", .bool false, .str d.shown], .tup (SqT.of (s2 _ _ ht)) (.cons (.str _) (.cons (.bl _) (.cons (.str _) .nil))), .tup (SqT.of upd_same) (.cons (.str _) (.cons (.bl _) (.cons (.str _) .nil))), odd_shaped hd, odd_shaped hd, _, rfl, ?_⟩
        rw [eqv_err]
        exact q _ _ ⟨rfl, s1.trans s2⟩
      · rintro _ ⟨e, _⟩
        cases e
      rintro G1 ⟨_, s01⟩
      have gfl1 := s01 _ _ gfl
      refine sq_if1 (fun b' G2 => b' = false ∧ Same G1 G2) (fun Q q => ?_) ?_ ?_
      · refine ⟨_, rfl, _, rfl, fl, _, _, _, rfl, rfl, SqL.of gfl1, rfl, _, rfl, fl, _, _, _, rfl, rfl, SqL.of gfl1, rfl, _, rfl, fl, _, _, _, rfl, rfl, SqL.of gfl1, rfl, .str z, f0, f1, f2, rfl, .inl ⟨z, rfl, hz, hzk, fun t G2 s1 ht => ?_⟩⟩
        have g2 := s1 _ _ gfl1
        refine ⟨_, rfl, _, rfl, fl, _, _, _, rfl, rfl, SqL.of g2, rfl, _, rfl, fl, _, _, _, rfl, rfl, SqL.of g2, rfl, _, rfl, fl, _, _, _, rfl, rfl, SqL.of g2, rfl, (by show 5 ≤ sizeLine; decide), fun u nu => ?_⟩
        have s2 := Lw.Same.new (o := .tup [.str "column", .str z, .bl f0, .bl f1, .bl f2]) (Same.refl G2) nu
        refine ⟨.tuple [.str "column", .str z, .bool f0, .bool f1, .bool f2], .tuple [.str "column", .str z, .bool f0, .bool f1, .bool f2], .tup (SqT.of (s2 _ _ ht)) (.cons (.str _) (.cons (.str _) (.cons (.bl _) (.cons (.bl _) (.cons (.bl _) .nil))))), .tup (SqT.of upd_same) (.cons (.str _) (.cons (.str _) (.cons (.bl _) (.cons (.bl _) (.cons (.bl _) .nil))))), shaped_col hz _ _ _, shaped_col hz _ _ _, _, rfl, ?_⟩
        rw [eqv_col]
        exact q _ _ ⟨rfl, s1.trans s2⟩
      · rintro _ ⟨e, _⟩
        cases e
      rintro G2 ⟨_, s12⟩
      have gfl2 := s12 _ _ gfl1
      have BG2 := BG.keep (Keep.of_same (s01.trans s12))
      have SG2 := SG.same (s01.trans s12)
      refine sq_par (fun x w G3 => ∃ (o : Addr) (i : Int), x = .ref o ∧ w = .int i ∧ 0 ≤ i ∧ i < 5 ∧ o ≠ p ∧ o ≠ fl ∧ H o = none ∧ G3 o = some (.lst (f3 f0 f1 f2)) ∧ G3 fl = some (.lst (f3 f0 f1 f2)) ∧ Bas H p G3 ∧ Src G3 p 21) (fun Q q => ?_) ?_
      · refine ⟨_, rfl, fl, _, rfl, .inl (SqL.of gfl2), fun o no => ?_⟩
        have op : o ≠ p := SG2.ne no
        have of_ : o ≠ fl := fun e => by subst e; rw [gfl2] at no; cases no
        refine ⟨_, rfl, p, _, _, rfl, SG2.new no, by omega, by decide, by decide, fun G3 i k3 s3 z0 z1 => q _ _ _ ⟨o, i, rfl, rfl, z0, z1, op, of_, ?_, k3 _ _ op upd_same, k3 _ _ flp ?_, BG2.keep (((Keep.refl G2).new no).trans k3), s3⟩⟩
        · cases e : H o with
          | none => rfl
          | some u => have w := (BG2 o u e).2; rw [no] at w; cases w
        · rw [upd_ne of_.symm]; exact gfl2
      rintro _ _ G3 ⟨o, i, rfl, rfl, i0, i5, op, of_, Ho, go, gfl3, BG3, SG3⟩
      refine sq_set (fun x G4 => ∃ z2 : Str, x = .str z2 ∧ IsWord z2 ∧ z2 ≠ "key" ∧ (i = 3 → z2 ≠ z) ∧ (i ≠ 3 → z2 = z) ∧ Keep p G3 G4 ∧ Src G4 p 40) (fun Q q => ?_) ?_
      · refine ⟨_, rfl, rfl, _, rfl, int_ite (fun hi => ?_) (fun hi => ?_)⟩
        · refine ⟨_, rfl, _, rfl, (by show 2 ≤ sizeLine; decide), fun L nL => ⟨p, L, _, ["key", z], rfl, SG3.new nL, by omega, SG3.ne nL, SqL.of upd_same, by show 2 ≤ 25; decide, fun G4 z2 k4 s4 hz2 hn2 => q _ _ ⟨z2, rfl, hz2, fun e => hn2 (by simp [e]), fun _ e => hn2 (by simp [e]), fun h => absurd hi h, ((Keep.refl G3).new nL).trans k4, s4.mono (by omega)⟩⟩⟩
        · exact ⟨_, rfl, q _ _ ⟨z, rfl, hz, hzk, fun h => absurd h hi, fun _ => rfl, Keep.refl G3, SG3.mono (by omega)⟩⟩
      rintro _ G4 ⟨z2, rfl, hz2, hz2k, zi, zn, k34, SG4⟩
      have go4 := k34 _ _ op go
      have gfl4 := k34 _ _ flp gfl3
      have BG4 := BG3.keep k34
      refine sq_join (fun b' G5 => G4 = G5 ∧ b' = decide (i < 3)) (fun G5 => ∃ g0 g1 g2 : Bool, G5 o = some (.lst (f3 g0 g1 g2)) ∧ G5 fl = some (.lst (f3 f0 f1 f2)) ∧ (i < 3 → ¬ (f0 = g0 ∧ f1 = g1 ∧ f2 = g2)) ∧ (¬ i < 3 → g0 = f0 ∧ g1 = f1 ∧ g2 = f2) ∧ Bas H p G5 ∧ Src G5 p 40) (fun Q q => ?_) ?_ ?_ ?_
      · exact ⟨_, rfl, _, _, rfl, rfl, _, rfl, q _ _ ⟨rfl, rfl⟩⟩
      · rintro _ ⟨rfl, hi⟩ D' kD
        have i3 : i < 3 := of_decide_eq_true hi.symm
        have put : ∀ (g0 g1 g2 : Bool), ¬ (f0 = g0 ∧ f1 = g1 ∧ f2 = g2) → D'.nx _ (upd G4 o (.lst (f3 g0 g1 g2))) := fun g0 g1 g2 hg => kD _ ⟨g0, g1, g2, upd_same, by rw [upd_ne of_.symm]; exact gfl4, fun _ => hg, fun n => absurd i3 n, BG4.set Ho, SG4.set op⟩
        have h012 : i = 0 ∨ i = 1 ∨ i = 2 := by omega
        rcases h012 with rfl | rfl | rfl
        · exact ⟨_, rfl, _, rfl, o, _, _, .bl f0, rfl, rfl, SqL.of go4, rfl, f0, rfl, _, rfl, _, rfl, o, _, _, 0, rfl, rfl, go4, rfl, put (!f0) f1 f2 (by cases f0 <;> simp)⟩
        · exact ⟨_, rfl, _, rfl, o, _, _, .bl f1, rfl, rfl, SqL.of go4, rfl, f1, rfl, _, rfl, _, rfl, o, _, _, 1, rfl, rfl, go4, rfl, put f0 (!f1) f2 (by cases f1 <;> simp)⟩
        · exact ⟨_, rfl, _, rfl, o, _, _, .bl f2, rfl, rfl, SqL.of go4, rfl, f2, rfl, _, rfl, _, rfl, o, _, _, 2, rfl, rfl, go4, rfl, put f0 f1 (!f2) (by cases f2 <;> simp)⟩
      · rintro _ ⟨rfl, hi⟩
        have i3 : ¬ i < 3 := of_decide_eq_false hi.symm
        exact ⟨f0, f1, f2, go4, gfl4, fun n => absurd n i3, fun _ => ⟨rfl, rfl, rfl⟩, BG4, SG4⟩
      rintro G5 ⟨g0, g1, g2, go5, gfl5, hlt, hge, BG5, SG5⟩
      have e4 : decide (z = z2 ∧ f0 = g0 ∧ f1 = g1 ∧ f2 = g2) = decide (V.int i = V.int 4) := by
        apply decide_eq_decide.mpr
        constructor
        · rintro ⟨h1, h2⟩
          have n3 : ¬ i < 3 := fun h => hlt h h2
          have m3 : i ≠ 3 := fun h => zi h h1.symm
          have : i = 4 := by omega
          rw [this]
        · intro h
          have h4 : i = 4 := V.int.inj h
          obtain ⟨e1, e2, e3⟩ := hge (by omega)
          exact ⟨(zn (by omega)).symm, e1.symm, e2.symm, e3.symm⟩
      refine sq_set (fun x G6 => ∃ x1, x = .ref x1 ∧ Col CC G6 x1 z f0 f1 f2 ∧ Same G5 G6) (fun Q q => ?_) ?_
      · exact ⟨_, rfl, _, rfl, fl, _, _, _, rfl, rfl, SqL.of gfl5, rfl, _, rfl, fl, _, _, _, rfl, rfl, SqL.of gfl5, rfl, _, rfl, fl, _, _, _, rfl, rfl, SqL.of gfl5, rfl, rfl, rfl, col_new hz hzk fun x1 G6 s6 n6 c6 => q _ _ ⟨x1, rfl, c6, s6⟩⟩
      rintro _ G6 ⟨x1, rfl, c1, s56⟩
      have go6 := s56 _ _ go5
      refine sq_set (fun x G7 => ∃ x2, x = .ref x2 ∧ Col CC G7 x2 z2 g0 g1 g2 ∧ Same G6 G7) (fun Q q => ?_) ?_
      · exact ⟨_, rfl, _, rfl, o, _, _, _, rfl, rfl, SqL.of go6, rfl, _, rfl, o, _, _, _, rfl, rfl, SqL.of go6, rfl, _, rfl, o, _, _, _, rfl, rfl, SqL.of go6, rfl, rfl, rfl, col_new hz2 hz2k fun x2 G7 s7 n7 c7 => q _ _ ⟨x2, rfl, c7, s7⟩⟩
      rintro _ G7 ⟨x2, rfl, c2, s67⟩
      have c17 := c1.same s67
      obtain ⟨dx1, hx1⟩ := c17
      obtain ⟨dx2, hx2⟩ := c2
      refine sq_if1 (fun b' G8 => b' = false ∧ G7 = G8) (fun Q q => ?_) ?_ ?_
      · refine ⟨_, rfl, _, rfl, x1, dx1, _, .ref CC, rfl, hx1, .ins hx2, nf_self, x1, .ref x2, z, f0, f1, f2, rfl, ⟨dx1, hx1⟩, .inl ⟨x2, z2, g0, g1, g2, rfl, ⟨dx2, hx2⟩, _, rfl, ?_⟩⟩
        refine ⟨_, rfl, rfl, rfl, _, rfl, ite_eq (congrArg V.bl e4) ?_⟩
        refine ⟨_, rfl, _, rfl, x1, dx1, _, .ref CC, rfl, hx1, .ins hx2, nf_self, x1, .ref x2, z, f0, f1, f2, rfl, ⟨dx1, hx1⟩, .inl ⟨x2, z2, g0, g1, g2, rfl, ⟨dx2, hx2⟩, _, rfl, ?_⟩⟩
        exact ⟨_, rfl, rfl, rfl, _, rfl, q _ _ ⟨ne_same (congrArg V.bl (congrArg Bool.not e4)), rfl⟩⟩
      · rintro _ ⟨e, _⟩
        cases e
      rintro _ ⟨_, rfl⟩
      have gfl7 := s67 _ _ (s56 _ _ gfl5)
      refine sq_if1 (fun b' G8 => b' = false ∧ Same G7 G8) (fun Q q => ?_) ?_ ?_
      · refine ⟨_, rfl, _, rfl, x1, dx1, _, .type "str", rfl, hx1, .str z, c.nf _ (by simp [eqTys]), x1, .str z, z, f0, f1, f2, rfl, ⟨dx1, hx1⟩, .inr ⟨⟨_, ty_str z, c.no _ (by simp [eqTys])⟩, _, rfl, _, rfl, ite_no rfl ?_⟩⟩
        refine ⟨_, rfl, x1, dx1, _, .type "NoneType", rfl, hx1, .non, c.nf _ (by simp [eqTys]), x1, .non, z, f0, f1, f2, rfl, ⟨dx1, hx1⟩, .inr ⟨⟨_, ty_non, c.no _ (by simp [eqTys])⟩, _, rfl, _, rfl, ite_no rfl ?_⟩⟩
        refine ⟨_, rfl, _, rfl, _, rfl, fl, _, _, _, rfl, rfl, SqL.of gfl7, rfl, _, rfl, fl, _, _, _, rfl, rfl, SqL.of gfl7, rfl, _, rfl, fl, _, _, _, rfl, rfl, SqL.of gfl7, rfl, (by show 4 ≤ sizeLine; decide), fun t nt => ?_⟩
        have st := Lw.Same.new (o := .tup [.str z, .bl f0, .bl f1, .bl f2]) (Same.refl G7) nt
        exact ⟨x1, dx1, _, .type "tuple", rfl, st _ _ hx1, .tup upd_same, c.nf _ (by simp [eqTys]), x1, .ref t, z, f0, f1, f2, rfl, ⟨dx1, st _ _ hx1⟩, .inr ⟨⟨_, .base (.tup upd_same), c.no _ (by simp [eqTys])⟩, _, rfl, _, rfl, q _ _ ⟨rfl, st⟩⟩⟩
      · rintro _ ⟨e, _⟩
        cases e
      rintro G8 ⟨_, s78⟩
      refine sq_set (fun x G9 => ∃ x3, x = .ref x3 ∧ Col CC G9 x3 z false false false ∧ Same G8 G9) (fun Q q => ?_) ?_
      · exact ⟨_, rfl, col_new hz hzk fun x3 G9 s9 n9 c9 => q _ _ ⟨x3, rfl, c9, s9⟩⟩
      rintro _ G9 ⟨x3, rfl, ⟨dx3, hx3⟩, s89⟩
      refine sq_if1 (fun b' G10 => b' = false ∧ Same G9 G10) (fun Q q => ?_) ?_ ?_
      · refine ⟨_, rfl, x3, z, false, false, false, rfl, ⟨dx3, hx3⟩, fun l G1 s1 hl => ⟨(by show 6 ≤ sizeLine; decide), fun l2 n2 => ?_⟩⟩
        have s2 := Lw.Same.new (o := .lst [.bl false, .bl true, .bl false, .bl true, .bl false, .bl true]) (Same.refl G1) n2
        refine ⟨.list [.bool false, .bool true, .bool false, .bool true, .bool false, .bool true], .list [.bool false, .bool true, .bool false, .bool true, .bool false, .bool true], .lst (SqL.of (s2 _ _ hl)) (.cons (.bl _) (.cons (.bl _) (.cons (.bl _) (.cons (.bl _) (.cons (.bl _) (.cons (.bl _) .nil)))))),
          .lst (SqL.of upd_same) (.cons (.bl _) (.cons (.bl _) (.cons (.bl _) (.cons (.bl _) (.cons (.bl _) (.cons (.bl _) .nil)))))), shaped6 _ _ _ _ _ _, shaped6 _ _ _ _ _ _, _, rfl, ite_no (by decide +kernel) ?_⟩
        exact ⟨_, rfl, x3, CC, dx3, _, .str z, rfl, s2 _ _ (s1 _ _ hx3), TC.cl, TC.n1, colF_name _ _ _ _, _, rfl, rfl, _, rfl, q _ _ ⟨ne_same rfl, s1.trans s2⟩⟩
      · rintro _ ⟨e, _⟩
        cases e
      rintro G10 ⟨_, s910⟩
      have s710 := (s78.trans s89).trans s910
      have gfl10 := s710 _ _ gfl7
      refine sq_set (fun x G11 => ∃ D, x = .ref D ∧ G11 D = some (.lst (dueL f0 f1 f2)) ∧ Same G10 G11) (fun Q q => ?_) ?_
      · refine ⟨_, rfl, by decide, by decide, fun D nD => ?_⟩
        have put : ∀ {G1 : Hp} {o : HO}, Same G10 G1 → Same G10 (upd G1 D o) := fun {G1 o} s b u e => by
          rw [upd_ne (ne_of_none e nD)]
          exact s b u e
        refine lc_range (lo := 0) (fun i G1 => G1 D = some (.lst ((dueL f0 f1 f2).take i)) ∧ Same G10 G1) ⟨upd_same, put (Same.refl G10)⟩ ?_ ?_
        · rintro i G1 hi ⟨hd, ss⟩
          have hi2 : i < 6 := hi
          have gf := ss _ _ gfl10
          have h05 : i = 0 ∨ i = 1 ∨ i = 2 ∨ i = 3 ∨ i = 4 ∨ i = 5 := by omega
          rcases h05 with rfl | rfl | rfl | rfl | rfl | rfl
          · exact ⟨rfl, _, rfl, _, rfl, _, _, rfl, rfl, ⟨by decide, by decide⟩, fl, _, _, .bl f0, rfl, rfl, SqL.of gf, rfl, _, rfl, _, _, rfl, rfl, (show (2 : Int) ≠ 0 by decide), rfl, rfl, _, hd, by show 0 < sizeLine; decide, by rw [upd_same]; rfl, put ss⟩
          · exact ⟨rfl, _, rfl, _, rfl, _, _, rfl, rfl, ⟨by decide, by decide⟩, fl, _, _, .bl f0, rfl, rfl, SqL.of gf, rfl, _, rfl, _, _, rfl, rfl, (show (2 : Int) ≠ 0 by decide), rfl, rfl, _, hd, by show 1 < sizeLine; decide, by rw [upd_same]; rfl, put ss⟩
          · exact ⟨rfl, _, rfl, _, rfl, _, _, rfl, rfl, ⟨by decide, by decide⟩, fl, _, _, .bl f1, rfl, rfl, SqL.of gf, rfl, _, rfl, _, _, rfl, rfl, (show (2 : Int) ≠ 0 by decide), rfl, rfl, _, hd, by show 2 < sizeLine; decide, by rw [upd_same]; rfl, put ss⟩
          · exact ⟨rfl, _, rfl, _, rfl, _, _, rfl, rfl, ⟨by decide, by decide⟩, fl, _, _, .bl f1, rfl, rfl, SqL.of gf, rfl, _, rfl, _, _, rfl, rfl, (show (2 : Int) ≠ 0 by decide), rfl, rfl, _, hd, by show 3 < sizeLine; decide, by rw [upd_same]; rfl, put ss⟩
          · exact ⟨rfl, _, rfl, _, rfl, _, _, rfl, rfl, ⟨by decide, by decide⟩, fl, _, _, .bl f2, rfl, rfl, SqL.of gf, rfl, _, rfl, _, _, rfl, rfl, (show (2 : Int) ≠ 0 by decide), rfl, rfl, _, hd, by show 4 < sizeLine; decide, by rw [upd_same]; rfl, put ss⟩
          · exact ⟨rfl, _, rfl, _, rfl, _, _, rfl, rfl, ⟨by decide, by decide⟩, fl, _, _, .bl f2, rfl, rfl, SqL.of gf, rfl, _, rfl, _, _, rfl, rfl, (show (2 : Int) ≠ 0 by decide), rfl, rfl, _, hd, by show 5 < sizeLine; decide, by rw [upd_same]; rfl, put ss⟩
        · rintro G1 ⟨hd, ss⟩
          exact q _ _ ⟨D, rfl, hd, ss⟩
      rintro _ G11 ⟨D, rfl, hD, s1011⟩
      have s711 := s710.trans s1011
      have hx1' := s711 _ _ hx1
      have hx3' := (s910.trans s1011) _ _ hx3
      have gfl11 := s1011 _ _ gfl10
      refine sq_if1 (fun b' G12 => b' = false ∧ Same G11 G12) (fun Q q => ?_) ?_ ?_
      · refine ⟨_, rfl, x1, z, f0, f1, f2, rfl, ⟨dx1, hx1'⟩, fun l G1 s1 hl => ⟨_, rfl, ?_⟩⟩
        refine ⟨_, _, .lst (SqL.of hl) (.cons (.bl _) (.cons (.bl _) (.cons (.bl _) (.cons (.bl _) (.cons (.bl _) (.cons (.bl _) .nil)))))), .lst (SqL.of (s1 _ _ hD)) (.cons (.bl _) (.cons (.bl _) (.cons (.bl _) (.cons (.bl _) (.cons (.bl _) (.cons (.bl _) .nil)))))), shaped6 _ _ _ _ _ _, shaped6 _ _ _ _ _ _, _, rfl, ite_no (by rw [due_eqv]; rfl) ?_⟩
        refine ⟨_, rfl, _, rfl, x3, dx3, _, .ref CC, rfl, s1 _ _ hx3', .ins (s1 _ _ hx1'), nf_self, x3, .ref x1, z, false, false, false, rfl, ⟨dx3, s1 _ _ hx3'⟩, .inl ⟨x1, z, f0, f1, f2, rfl, ⟨dx1, s1 _ _ hx1'⟩, _, rfl, ?_⟩⟩
        refine ⟨_, rfl, (by show 3 ≤ sizeLine; decide), fun l2 n2 => ?_⟩
        have s2 := Lw.Same.new (o := .lst [.bl false, .bl false, .bl false]) (Same.refl G1) n2
        exact ⟨.list [.bool f0, .bool f1, .bool f2], .list [.bool false, .bool false, .bool false], .lst (SqL.of (s2 _ _ (s1 _ _ gfl11))) (.cons (.bl _) (.cons (.bl _) (.cons (.bl _) .nil))), .lst (SqL.of upd_same) (.cons (.bl _) (.cons (.bl _) (.cons (.bl _) .nil))), shaped3 _ _ _, shaped3 _ _ _, rfl, _, rfl, q _ _ ⟨ne_same (congrArg V.bl (plain_eqv z f0 f1 f2)), s1.trans s2⟩⟩
      · rintro _ ⟨e, _⟩
        cases e
      rintro G12 ⟨_, s1112⟩
      refine s1_if (fun b' G13 => b' = false ∧ Same G12 G13) (fun Q q => ?_) ?_ ?_
      · refine ⟨_, rfl, rfl, rfl, col_new hz hzk fun y1 K1 t1 n1 ⟨e1, w1⟩ => ⟨y1, CC, e1, _, .bl true, rfl, w1, TC.cl, TC.n2, colF_large _ _ _ _, ?_⟩⟩
        refine ⟨_, rfl, rfl, rfl, col_new hz hzk fun y2 K2 t2 n2 ⟨e2, w2⟩ => ⟨y2, CC, e2, _, .bl true, rfl, w2, TC.cl, TC.n3, colF_fixed _ _ _ _, ?_⟩⟩
        refine ⟨_, rfl, rfl, rfl, col_new hz hzk fun y3 K3 t3 n3 ⟨e3, w3⟩ => ⟨y3, CC, e3, _, .bl true, rfl, w3, TC.cl, TC.n4, colF_empty _ _ _ _, (by show 3 ≤ sizeLine; decide), fun l nl => ?_⟩⟩
        refine ⟨(by show 1 ≤ sizeLine; decide), fun l2 nl2 => ⟨l2, _, _, rfl, rfl, upd_same, by decide, by decide, by decide, fun r nr => ?_⟩⟩
        have a1 := Lw.Same.new (o := .lst [.bl true, .bl true, .bl true]) (Same.refl K3) nl
        have a2 := Lw.Same.new (o := .lst [.bl true]) (Same.refl _) nl2
        have a3 := Lw.Same.new (o := .lst [.bl true, .bl true, .bl true]) (Same.refl _) nr
        exact ⟨.list [.bool true, .bool true, .bool true], .list [.bool true, .bool true, .bool true], .lst (xs := [.bl true, .bl true, .bl true]) (SqL.of ((a2.trans a3) _ _ upd_same)) (.cons (.bl _) (.cons (.bl _) (.cons (.bl _) .nil))), .lst (xs := [.bl true, .bl true, .bl true]) (SqL.of upd_same) (.cons (.bl _) (.cons (.bl _) (.cons (.bl _) .nil))),
          shaped3 _ _ _, shaped3 _ _ _, _, rfl, q _ _ ⟨by decide +kernel, ((t1.trans t2).trans t3).trans ((a1.trans a2).trans a3)⟩⟩
      · rintro _ ⟨e, _⟩
        cases e
      rintro G13 ⟨_, s1213⟩
      exact ⟨_, _, _, _, _, _, _, _, _, _, _, _, _, rfl, BG5.out.trans (((((s56.trans s67).trans s711).trans s1112)).trans s1213)⟩
    · rintro σ G ⟨v1, v2, v3, v4, v5, v6, v7, v8, v9, v10, v11, v12, v13, rfl, s⟩
      exact k G
end
end Lw

set_option Elab.async false
set_option linter.all false
set_option maxRecDepth 100000
set_option maxHeartbeats 0
namespace Hb
open PySem PySem.Spec PyProof.Rows L2
/-! a Hook: facts, defs wherever they stand, one Bool more; the table of modules is seen too -/
abbrev Al : Type := He.AlD × Bool
def asB (g : Addr → Option Obj) (n : Nat) : List Addr := He5.asA g n ++ [sysModules]
def obG (n : Nat) (fa : List He.Fa) (fn : List He5.DefA) (own : PySem.W.Frag → Bool) (g : Addr → Option Obj) : Al := (He5.obsA fa fn (He.frG g (asB g n)), own (He.frG g (asB g n)))
def Says (fa : List He.Fa) (fn : List He5.DefA) (own : PySem.W.Frag → Bool) (K : PySem.W.Frag) : Prop := He5.SaysA fa fn K ∧ own K = true
def hook (n : Nat) (fa : List He.Fa) (fn : List He5.DefA) (own : PySem.W.Frag → Bool) : PySem.W.Hook where
  α := Al
  obs := fun s => obG n fa fn own s.heap.get?
  val := fun _ => (He5.valA fn, true)
  says := fun _ h => ∃ K : PySem.W.Frag, K.In h ∧ Says fa fn own K
  of := fun _ _ e => ⟨_, He.frG_in, congrArg Prod.fst e, congrArg Prod.snd e⟩
  keeps := fun _ _ _ ⟨K, hK, c⟩ k => ⟨K, PySem.W.Frag.In.keeps hK k, c⟩
theorem obG_eq {n : Nat} {fa : List He.Fa} {fn : List He5.DefA} {own : PySem.W.Frag → Bool} {g : Addr → Option Obj} {s : Shared} (h : ∀ a, g a = s.heap.get? a) : obG n fa fn own g = (hook n fa fn own).obs s := by
  rw [show g = s.heap.get? from funext h] <;> rfl
theorem Says.fact {fa : List He.Fa} {fn : List He5.DefA} {own : PySem.W.Frag → Bool} {K : PySem.W.Frag} (c : Says fa fn own K) {f : He.Fa} (hf : f ∈ fa) : f.ok K = true := by
  obtain ⟨i, hi⟩ := List.getElem?_of_mem hf
  exact c.1.fact i hi
/-- a class's constants -/
def cvS (K : PySem.W.Frag) (C : Addr) (f z : Str) : Bool := match PySem.W.findCls K (.ref C) (.type "type") f with
  | some (.val (.str y _)) => decide (y = z)
  | _ => false
def cvI (K : PySem.W.Frag) (C : Addr) (f : Str) (i : Int) : Bool := match PySem.W.findCls K (.ref C) (.type "type") f with
  | some (.val (.int y _)) => decide (y = i)
  | _ => false
theorem cvS_ok {K : PySem.W.Frag} {C : Addr} {f z : Str} (h : cvS K C f z = true) : ∃ u, ClX.CVal K C (.type "type") f (.str z) u := by
  unfold cvS at h
  split at h
  · rename_i y t e
    exact ⟨_, e, t, by rw [of_decide_eq_true h]⟩
  · cases h
theorem cvI_ok {K : PySem.W.Frag} {C : Addr} {f : Str} {i : Int} (h : cvI K C f i = true) : ∃ u, ClX.CVal K C (.type "type") f (.int i) u := by
  unfold cvI at h
  split at h
  · rename_i y t e
    exact ⟨_, e, t, by rw [of_decide_eq_true h]⟩
  · cases h
def crB (K : PySem.W.Frag) (C : Addr) : Bool := PySem.W.readsIn K C (.type "type") && He.eqO (PySem.W.specialIn K (.ref C) "__getattribute__") (some (some (.builtin "type.__getattribute__")))
theorem crB_ok {K : PySem.W.Frag} {C : Addr} (h : crB K C = true) : ClX.CRead K C (.type "type") := ⟨(He.ba h).1, He.eqO_ok (He.ba h).2⟩
def sysB (K : PySem.W.Frag) : Bool := match K.lookup sysModules with
  | some o => decide (o.cls = .type "dict")
  | none => false
theorem sysB_ok {K : PySem.W.Frag} (h : sysB K = true) : Lg.SysIn K := by
  unfold sysB at h
  split at h
  · rename_i o e
    exact ⟨o, e, of_decide_eq_true h⟩
  · cases h
end Hb

set_option Elab.async false
set_option linter.all false
set_option maxRecDepth 100000
set_option maxHeartbeats 0
namespace Lw
open PySem PySem.Spec PyProof.Rows L2
def dG (x : Str) (st : Stmt) : He5.DefA := ⟨fun K => He.ga K x, x, x, defArgs st, defBody st, defScope st, [], []⟩
def dM (C m q : Str) (st : Stmt) (kwd : List (Str × He.Dv) := []) : He5.DefA := ⟨fun K => He.ma K (He.ga K C) m, m, q, defArgs st, defBody st, defScope st, [], kwd⟩
def fn : List He5.DefA := [dG "is_word" sIsWord, dG "copied" sCopied, dM "BadColumn" "__init__" "BadColumn.__init__" sBC, dM "Column" "__init__" "Column.__init__" sColI [("large", .bl false), ("fixed", .bl false), ("empty", .bl false)], dM "Column" "__eq__" "Column.__eq__" sColE,
  dG "_law_source" sSource, dG "_law_draw" sDraw, dG "_law_of" sOf, dG "_law_word" sWord, dG "_law_odd" sOdd, dG "_law_told" sTold, dG "_law_flags_told" sFlags, dG "law" sLaw]
def glos : List Str := ["is_word", "copied", "BadTable", "BadColumn", "CopiesError", "Column", "Table", "_law_source", "_law_draw", "_law_of", "_law_word", "_law_odd", "_law_told", "_law_flags_told", "law"]
def frees : List Str := ["len", "abs", "int", "range", "isinstance", "bool", "str", "list", "tuple", "dict", "all", "max", "min", "repr"]
def fa : List He.Fa := glos.map He.Fa.glo ++ (frees.map He.Fa.free ++ [.int "LONGEST_WORD" 8, .cls "Column", .noat "Column" "name", .noat "Column" "large", .noat "Column" "fixed", .noat "Column" "empty", .mkr "Column", .exm "BadColumn" "BadColumn" true, .meth "BadColumn" "__init__", .meth "Column" "__eq__"])
def own (K : PySem.W.Frag) : Bool := Hk.clsB K (He.ga K "BadColumn") && (He.eqO (PySem.W.findIn K (.ref (He.ga K "BadColumn")) "name") (some none) && (Hk.excB K (He.ga K "BadColumn") && (Hk.insB K (He.ga K "Column") &&
  (decide (PySem.W.kitOne K (.ref (He.ga K "BadColumn")) (.ref (He.ga K "BadTable")) = some false) && (decide (PySem.W.kitOne K (.ref (He.ga K "BadColumn")) (.ref (He.ga K "CopiesError")) = some true) &&
  (eqTys.all (fun t => PySem.W.notFirst K (He.ga K "Column") (.type t)) && (eqTys.all (fun t => decide (PySem.W.kitOne K (.type t) (.ref (He.ga K "Column")) = some false)) && (Hb.crB K (He.ga K "Table") && (Hb.cvS K (He.ga K "Table") "KEY" "key" &&
  (He.eqO (PySem.W.findIn K (.ref (He.ga K "Column")) "__ne__") (some (some (.builtin "object.__ne__"))) && Hb.sysB K))))))))))
abbrev R : PySem.W.OpenRow := PySem.W.OpenLaw.row PySem.Challenge.rw_filteredcopies_k02_columns
abbrev qv : Program := PySem.W.view R.prog [21]
def names1 : List Str := ["_wall", "LONGEST_WORD", "is_word", "copied", "CopiesError", "BadColumn", "BadTable", "NoColumn", "Column", "Table"]
def names2 : List Str := ["_law_source", "_law_draw", "_law_of", "_law_word", "_law_odd", "_law_told", "_law_flags_told"]
def names : List Str := names1 ++ names2
abbrev hk : PySem.W.Hook := Hb.hook 6 fa fn own
def ob (s : PySem.W.SharedT) : Hb.Al := Hb.obG 6 fa fn own (HandSHeadRun.getT s)
theorem ob_eq (s : PySem.W.SharedT) : ob s = hk.obs s.abs := Hb.obG_eq (HandSHeadRun.getT_eq s)
theorem run (w : World) : HandSHeadRun.RunEq R qv hk ob 9000 names w :=
  PySem.W.byRow2 "special-get-raises" (P := fun w => HandSHeadRun.RunEq R qv hk ob 9000 names w) (fun w => by intro os; kernel_rfl) (fun w => by intro os; kernel_rfl) w
end Lw

set_option Elab.async false
set_option linter.all false
set_option maxRecDepth 100000
set_option maxHeartbeats 4000000
namespace Lw
open PySem PySem.Spec PyProof.Rows L2 Lg
section
variable {K : PySem.W.Frag} {h : Heap} {mg : Str → Option Value}
theorem f_glo (X : K.In h) (G : h.Ns mainGlobals mg) (c : Hb.Says fa fn own K) {x : Str} (hx : x ∈ glos) : mg x = some (.ref (He.ga K x)) :=
  He.glo_ok X G (c.fact (f := .glo x) (List.mem_append_left _ (List.mem_map_of_mem hx)))
theorem f_free (X : K.In h) (G : h.Ns mainGlobals mg) (c : Hb.Says fa fn own K) {x : Str} (hx : x ∈ frees) : mg x = none :=
  He.free_ok X G (c.fact (f := .free x) (List.mem_append_right _ (List.mem_append_left _ (List.mem_map_of_mem hx))))
end
theorem facts {P : Program} {w : World} {K : PySem.W.Frag} {h : Heap} {mg : Str → Option Value} {f : Addr} (X : K.In h) (G : h.Ns mainGlobals mg) (hfa : mg ("law" : Str) = some (.ref f)) (c : Hb.Says fa fn own K) :
    ∃ fd : FuncData, (∀ (s : Shared) (v : Value), BindsTo s fd ⟨[v], []⟩ [("script", v)]) ∧ ∀ base : Heap, K.In base → base.Ns mainGlobals mg → FnG P w K mg base CX0 8 f fd ["script"] (spLaw K) := by
  have gl : ∀ {x : Str}, x ∈ glos → mg x = some (.ref (He.ga K x)) := fun hx => f_glo X G c hx
  have fr : ∀ {x : Str}, x ∈ frees → mg x = none := fun hx => f_free X G c hx
  obtain ⟨o1, o⟩ := He.ba c.2
  obtain ⟨o2, o⟩ := He.ba o
  obtain ⟨o3, o⟩ := He.ba o
  obtain ⟨o4, o⟩ := He.ba o
  obtain ⟨o5, o⟩ := He.ba o
  obtain ⟨o6, o⟩ := He.ba o
  obtain ⟨o7, o⟩ := He.ba o
  obtain ⟨o8, o⟩ := He.ba o
  obtain ⟨o9, o⟩ := He.ba o
  obtain ⟨o10, o⟩ := He.ba o
  obtain ⟨o11, o12⟩ := He.ba o
  have oex := Hk.oexB_ok o1
  have noA : PySem.W.findIn K (.ref (He.ga K "BadColumn")) "name" = some none := He.eqO_ok o2
  obtain ⟨exc, xf⟩ := Hk.excB_ok o3
  obtain ⟨i1, i⟩ := He.ba o4
  obtain ⟨i2, i⟩ := He.ba i
  obtain ⟨i3, i4⟩ := He.ba i
  have sy := Hb.sysB_ok o12
  obtain ⟨d0, D0⟩ := c.1.def_ 0 (d := dG "is_word" sIsWord) rfl
  obtain ⟨d1, D1⟩ := c.1.def_ 1 (d := dG "copied" sCopied) rfl
  obtain ⟨d2, D2⟩ := c.1.def_ 2 (d := dM "BadColumn" "__init__" "BadColumn.__init__" sBC) rfl
  obtain ⟨d3, D3⟩ := c.1.def_ 3 (d := dM "Column" "__init__" "Column.__init__" sColI [("large", .bl false), ("fixed", .bl false), ("empty", .bl false)]) rfl
  obtain ⟨d4, D4⟩ := c.1.def_ 4 (d := dM "Column" "__eq__" "Column.__eq__" sColE) rfl
  obtain ⟨d5, D5⟩ := c.1.def_ 5 (d := dG "_law_source" sSource) rfl
  obtain ⟨d6, D6⟩ := c.1.def_ 6 (d := dG "_law_draw" sDraw) rfl
  obtain ⟨d7, D7⟩ := c.1.def_ 7 (d := dG "_law_of" sOf) rfl
  obtain ⟨d8, D8⟩ := c.1.def_ 8 (d := dG "_law_word" sWord) rfl
  obtain ⟨d9, D9⟩ := c.1.def_ 9 (d := dG "_law_odd" sOdd) rfl
  obtain ⟨d10, D10⟩ := c.1.def_ 10 (d := dG "_law_told" sTold) rfl
  obtain ⟨d11, D11⟩ := c.1.def_ 11 (d := dG "_law_flags_told" sFlags) rfl
  obtain ⟨d12, D12⟩ := c.1.def_ 12 (d := dG "law" sLaw) rfl
  have e := hfa.symm.trans (gl (x := "law") (by decide +kernel))
  cases e
  refine ⟨d12, fun s v => FunD.bindsA (ps := ["script"]) D12 (fun _ _ _ _ _ _ us hl => match us, hl with | [_], _ => rfl) s [v] rfl, fun base KB GB => ?_⟩
  have TP : TxtP mg := ⟨fr (by decide +kernel), fr (by decide +kernel), fr (by decide +kernel), fr (by decide +kernel), fr (by decide +kernel), fr (by decide +kernel), fr (by decide +kernel), fr (by decide +kernel), fr (by decide +kernel), He.int_ok X G (c.fact (by unfold fa; simp))⟩
  have TD : TxtD mg := ⟨fr (by decide +kernel), fr (by decide +kernel), fr (by decide +kernel), fr (by decide +kernel)⟩
  have cW : Cal P w K mg base CX0 "is_word" 1 ["value"] (spIsWord K) := ⟨_, _, gl (by decide +kernel), D0.kp, ok_isWord D0 TP, D0.bindsN fun _ _ _ _ _ _ us hl => match us, hl with | [_], _ => rfl⟩
  have bC : Binds K d1 ["value"] [] := D1.bindsN fun _ _ _ _ _ _ us hl => match us, hl with | [_], _ => rfl
  have cC1 : Cal P w K mg base CX0 "copied" 1 ["value"] (spCopied K) := ⟨_, _, gl (by decide +kernel), D1.kp, ok_copied D1 TP, bC⟩
  have cC2 : Cal P w K mg base CX0 "copied" 2 ["value"] spCopy := ⟨_, _, gl (by decide +kernel), D1.kp, ok_copy D1 TP cC1, bC⟩
  have TB : TxtB K mg (He.ga K "BadColumn") := ⟨oex, noA, gl (by decide +kernel)⟩
  have MB := He.meth_ok (c.fact (f := .meth "BadColumn" "__init__") (by unfold fa; simp))
  have B : BadC P w K mg base (He.ga K "BadColumn") := ⟨TB, _, _, MB.at_, beq_iff_eq.mp MB.fn, ok_bc D2 TB cC2, D2.bindsN fun _ _ _ _ _ _ us hl => match us, hl with | [_, _], _ => rfl⟩
  have TC : TxtC K mg (He.ga K "Column") (He.ga K "Table") := ⟨He.cls_ok (c.fact (by unfold fa; simp)), He.noat_ok (c.fact (by unfold fa; simp)), He.noat_ok (c.fact (by unfold fa; simp)), He.noat_ok (c.fact (by unfold fa; simp)), He.noat_ok (c.fact (by unfold fa; simp)), gl (by decide +kernel), gl (by decide +kernel),
    Hb.crB_ok o9, Hb.cvS_ok o10, fr (by decide +kernel), He.eqO_ok i1, of_decide_eq_true i3, of_decide_eq_true i4, of_decide_eq_true i2⟩
  have MC : ColM P w K mg base (He.ga K "Column") (He.ga K "BadColumn") (He.ma K (He.ga K "Column") "__init__") d3 := ⟨gl (by decide +kernel), He.mkr_ok (c.fact (by unfold fa; simp)), ok_colI D3 TC B cW, D3⟩
  have TU : TxtU K mg (He.ga K "BadColumn") (He.ga K "BadTable") (He.ga K "CopiesError") := ⟨fr (by decide +kernel), fr (by decide +kernel), gl (by decide +kernel), gl (by decide +kernel), gl (by decide +kernel), exc, xf, noA, He.exm_ok (c.fact (by unfold fa; simp)), of_decide_eq_true o5, of_decide_eq_true o6⟩
  have ME := He.meth_ok (c.fact (f := .meth "Column" "__eq__") (by unfold fa; simp))
  have cDr := cal_draw (P := P) (w := w) (base := base) TD ⟨_, _, gl (by decide +kernel), D6⟩
  have cOf : Cal P w K mg base CX0 "_law_of" 2 ["source", "some"] (spOf K) := ⟨_, _, gl (by decide +kernel), D7.kp, ok_of D7 TD cDr, D7.bindsN fun _ _ _ _ _ _ us hl => match us, hl with | [_, _], _ => rfl⟩
  refine ok_law D12 (fE := He.ma K (He.ga K "Column") "__eq__") (fdE := d4) ⟨⟨_, _, gl (by decide +kernel), D5.kp, ok_source D5 TD, D5.bindsN fun _ _ _ _ _ _ us hl => match us, hl with | [_, _], _ => rfl⟩, cDr, cOf,
    ⟨_, _, gl (by decide +kernel), D8.kp, ok_word D8 TD cDr, D8.bindsN fun _ _ _ _ _ _ us hl => match us, hl with | [_, _], _ => rfl⟩,
    ⟨_, _, gl (by decide +kernel), D9.kp, ok_odd2 D9 cOf, D9.bindsN fun _ _ _ _ _ _ us hl => match us, hl with | [_], _ => rfl⟩,
    ⟨_, _, gl (by decide +kernel), D10.kp, ok_told D10 TU TC MC sy, D10.bindsN fun _ _ _ _ _ _ us hl => match us, hl with | [_, _, _, _], _ => rfl⟩,
    ⟨_, _, gl (by decide +kernel), D11.kp, ok_flags D11 TC, D11.bindsN fun _ _ _ _ _ _ us hl => match us, hl with | [_], _ => rfl⟩,
    fr (by decide +kernel), fr (by decide +kernel), fr (by decide +kernel), fr (by decide +kernel), fr (by decide +kernel), fr (by decide +kernel),
    ⟨ME.at_, He.eqO_ok o11, ME.fn, of_decide_eq_true i2⟩, ok_colE D4 TC, D4.bindsN fun _ _ _ _ _ _ us hl => match us, hl with | [_, _], _ => rfl,
    fun t ht => List.all_eq_true.mp o7 t ht, fun t ht => of_decide_eq_true (List.all_eq_true.mp o8 t ht)⟩ TC MC sy
end Lw

open PySem PySem.W PyProof.Rows in
theorem PySem.Challenge.cw_filteredcopies_k02_columns_holds : PySem.Challenge.rw_filteredcopies_k02_columns.Holds := by
  w_on; o_law
  refine HandSHeadRun.head_any (r := Lw.R) (q := Lw.qv) (H := Lw.hk) (ob := Lw.ob) (M := 9000) (loose := Lw.names) (d := HandSHeadRun.topDef Lw.R.prog 21) (kwd := []) Lw.ob_eq
    (by kernel_rfl) (fun s => by kernel_rfl) Lw.run (by kernel_rfl) (by kernel_rfl) (by kernel_rfl) (by rfl) (by first | assumption | decide +kernel) (by decide +kernel) ⟨rfl, rfl, rfl, rfl, rfl, by decide +kernel⟩ ?hw ?hc
  case hw => w_witness2
  case hc =>
    refine Lg.walk_G (l := PySem.Challenge.rw_filteredcopies_k02_columns) (n := 63) (k := 8) (x := "script") (X0 := L2.CX0) rfl (by decide) (by kernel_rfl) ⟨rfl, by decide, by decide⟩ ?F (fun _ _ _ _ z => z)
    intro w mg fa h Y G hmg0
    obtain ⟨K, KX, c⟩ := Y
    have hmg : mg ("law" : PySem.Str) = some (.ref fa) := by
      have e : (HandSHeadRun.topDef Lw.R.prog 21).name = ("law" : PySem.Str) := by kernel_rfl
      rw [← e]
      exact hmg0
    obtain ⟨fd, hb, hF⟩ := Lw.facts (P := (PySem.Challenge.rw_filteredcopies_k02_columns).prog) (w := w) KX G hmg c
    exact ⟨K, fd, Lw.spLaw K, KX, hb, fun H a ns hl _ hS => ⟨a, ns, rfl, hS, hl, fun _ => rfl⟩, hF⟩
