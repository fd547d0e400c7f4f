import PyProof.Rows.All
import Wide.All
import OpenK.AllK
import Wide.FinOn
import HandS.Base
import HandS.Call
import HandS.List
import HandS.Comp
import HandS.Dict
import HandS.Iter
import HandS.Text
import HandS.Ends
import HandS.Words
import HandS.WordsList
import HandS.Exc
import HandS.ExcOwn
import HandS.TryOnly
import HandS.ExcInit
import HandS.More
import HandS.Defaults
import HandS.Walk
import KE.KExcIs
import HandS.IsInst
import HandS.ExcIs
import HandS.ExcField
import HandS.Style
import HandS.WordsExc
import HandS.Head0
import HandS.Head1
import HandS.Head2
import HandS.HeadEnd
import HandS.HeadHook1
import HandS.HeadHook2
import HandS.HeadHook3
import HandS.ExcCtx
import HandS.HotCalls
import HandS.ClsMeth
import HandS.Star
import HandS.MakeKwOnly
import PyProof.Rows.RuleB_bool
import HandS.Wide
import HandS.Set
import HandS.SetBool
import HandS.SetKeys
import PyProof.EvalArms
import HandS.DictComp
import HandS.RaiseMore
import PyProof.ReprRoads
import HandS.OwnEq
import KE.KOpsOwn
import HandS.Zip
import HandS.ListItems
import HandS.Finally
import KE.KDictList
import PyProof.FactsAll.dict_3
import HandS.HeadNt
import PySem.Challenge.RW_filteredcopies_k14_filters_stay
set_option Elab.async false
set_option linter.all false
set_option maxRecDepth 100000
set_option maxHeartbeats 4000000
namespace Lw
open PySem PySem.Spec PyProof.Rows L2
abbrev MethD (K : PySem.W.Frag) (x q : Str) (st : Stmt) (f : Addr) (fd : FuncData) : Prop := FunD K x q (defArgs st) (defBody st) (defScope st) [] [] f fd
/-! heaps: all but what stands at a is kept -/
def Keep (a : Addr) (H H' : Hp) : Prop := ∀ b o, b ≠ a → H b = some o → H' b = some o
theorem Keep.refl {a : Addr} (H : Hp) : Keep a H H := fun _ _ _ h => h
theorem Keep.trans {a : Addr} {H H1 H2 : Hp} (x : Keep a H H1) (y : Keep a H1 H2) : Keep a H H2 := fun b o n h => y b o n (x b o n h)
theorem Keep.of_same {a : Addr} {H H' : Hp} (s : Same H H') : Keep a H H' := fun b o _ h => s b o h
theorem Keep.upd {a : Addr} {H H' : Hp} {o : HO} (k : Keep a H H') : Keep a H (upd H' a o) := fun b u n h => by
  rw [upd_ne n]
  exact k b u n h
theorem Keep.new {a p : Addr} {H H' : Hp} {o : HO} (k : Keep a H H') (hp : H' p = none) : Keep a H (L2.upd H' p o) := fun b u n h => by
  rw [upd_ne (ne_of_none (k b u n h) hp)]
  exact k b u n h
theorem Keep.seq {K : PySem.W.Frag} {a b : Addr} {H H' : Hp} {xs : List V} (k : Keep a H H') (n : b ≠ a) (h : SqL K H b xs) : SqL K H' b xs := by
  rcases h with (h | ⟨o, h⟩) | h
  · exact .inl (.inl (k _ _ n h))
  · exact .inl (.inr ⟨o, k _ _ n h⟩)
  · exact .inr h
theorem Keep.seqT {K : PySem.W.Frag} {a b : Addr} {H H' : Hp} {xs : List V} (k : Keep a H H') (n : b ≠ a) (h : SqT K H b xs) : SqT K H' b xs := by
  rcases h with (h | ⟨o, h⟩) | h
  · exact .inl (.inl (k _ _ n h))
  · exact .inl (.inr ⟨o, k _ _ n h⟩)
  · exact .inr h
/-- the drawing's source: three numbers; n bounds how often was drawn -/
def Src (H : Hp) (a : Addr) (n : Nat) : Prop := ∃ d s t : Int, H a = some (.lst [.int d, .int s, .int t]) ∧ 0 ≤ d ∧ 0 ≤ s ∧ s < 9223372036854775808 ∧ 0 ≤ t ∧ t ≤ (n : Int)
theorem Src.mono {H : Hp} {a : Addr} {n m : Nat} (h : Src H a n) (l : n ≤ m) : Src H a m := by
  obtain ⟨d, s, t, h1, h2, h3, h4, h5, h6⟩ := h
  exact ⟨d, s, t, h1, h2, h3, h4, h5, by omega⟩
theorem Src.new {H : Hp} {a p : Addr} {n : Nat} {o : HO} (h : Src H a n) (hp : H p = none) : Src (upd H p o) a n := by
  obtain ⟨d, s, t, h1, h2⟩ := h
  exact ⟨d, s, t, by rw [upd_ne (ne_of_none h1 hp)]; exact h1, h2⟩
theorem Src.ne {H : Hp} {a p : Addr} {n : Nat} (h : Src H a n) (hp : H p = none) : p ≠ a := by
  obtain ⟨d, s, t, h1, _⟩ := h
  exact (ne_of_none h1 hp).symm
abbrev big : Nat := 1000000000
/-! steps: a statement's reading by what its expression comes to -/
section
variable {te : TE} {c : TT} {u v t1 t2 : TS} {D : Ends} {σ : L2.St} {H : Hp} {i : Nat}
theorem sq_set (P : V → Hp → Prop) (h : ∀ Q : VK, (∀ x H', P x H' → Q x H') → te σ H Q) (k : ∀ x H', P x H' → u D (σ.set i (some x)) H') : tSeq (tAsg te (gName i)) u D σ H := h _ k
theorem s1_set (P : V → Hp → Prop) (h : ∀ Q : VK, (∀ x H', P x H' → Q x H') → te σ H Q) (k : ∀ x H', P x H' → D.nx (σ.set i (some x)) H') : (tAsg te (gName i)) D σ H := h _ k
theorem sq_par {j : Nat} {ta : TA} (P : V → V → Hp → Prop) (h : ∀ Q : List V → Hp → Prop, (∀ x y H', P x y H' → Q [x, y] H') → ta σ H Q) (k : ∀ x y H', P x y H' → u D ((σ.set i (some x)).set j (some y)) H') : tSeq (tPar i j ta) u D σ H := h _ fun x y H' p => ⟨x, y, rfl, k x y H' p⟩
theorem sq_do (P : V → Hp → Prop) (h : ∀ Q : VK, (∀ x H', P x H' → Q x H') → te σ H Q) (k : ∀ x H', P x H' → u D σ H') : tSeq (tDrop te) u D σ H := h _ k
theorem sq_if (P : Bool → Hp → Prop) (h : ∀ Q : Bool → Hp → Prop, (∀ b H', P b H' → Q b H') → c σ H Q) (kt : ∀ H', P true H' → t1 { D with nx := u D } σ H') (kf : ∀ H', P false H' → t2 { D with nx := u D } σ H') : tSeq (tIfS c t1 t2) u D σ H :=
  h _ fun b H' p => by
    cases b with
    | true => rw [if_pos rfl]; exact kt H' p
    | false => rw [if_neg Bool.false_ne_true]; exact kf H' p
theorem sq_if1 (P : Bool → Hp → Prop) (h : ∀ Q : Bool → Hp → Prop, (∀ b H', P b H' → Q b H') → c σ H Q) (kt : ∀ H', P true H' → t1 { D with nx := u D } σ H') (kf : ∀ H', P false H' → u D σ H') : tSeq (tIfS c t1 tNext) u D σ H := sq_if P h kt kf
theorem s1_if (P : Bool → Hp → Prop) (h : ∀ Q : Bool → Hp → Prop, (∀ b H', P b H' → Q b H') → c σ H Q) (kt : ∀ H', P true H' → t1 D σ H') (kf : ∀ H', P false H' → t2 D σ H') : (tIfS c t1 t2) D σ H :=
  h _ fun b H' p => by
    cases b with
    | true => rw [if_pos rfl]; exact kt H' p
    | false => rw [if_neg Bool.false_ne_true]; exact kf H' p
theorem s1_ret (P : V → Hp → Prop) (h : ∀ Q : VK, (∀ x H', P x H' → Q x H') → te σ H Q) (k : ∀ x H', P x H' → D.rt x H') : tRet te D σ H := h _ k
end
/-! promises -/
def spSource (K : PySem.W.Frag) : Sp := fun vs H Q _ => ∃ (a : Addr) (ns : List Int) (i : Int), vs = [.ref a, .int i] ∧ SqL K H a (ns.map V.int) ∧ ns.length ≤ 1000 ∧ 0 ≤ i ∧ i ≤ 1000 ∧
  ∀ p H', H p = none → Same H H' → Src H' p 0 → Q (.ref p) H'
def spDraw : Sp := fun vs H Q _ => ∃ (a : Addr) (n : Nat) (m : Int), vs = [.ref a, .int m] ∧ Src H a n ∧ n ≤ 1000000000 ∧ 0 < m ∧ m ≤ 1000000000 ∧
  ∀ H' i, Keep a H H' → Src H' a (n + 1) → 0 ≤ i → i < m → Q (.int i) H'
def spOf (K : PySem.W.Frag) : Sp := fun vs H Q _ => ∃ (a b : Addr) (n : Nat) (xs : List V), vs = [.ref a, .ref b] ∧ Src H a n ∧ n ≤ 1000000000 ∧ b ≠ a ∧ SqL K H b xs ∧ xs ≠ [] ∧ xs.length ≤ 100000 ∧
  ∀ H' x, Keep a H H' → Src H' a (n + 1) → x ∈ xs → Q x H'
def spNumber : Sp := fun vs H Q _ => ∃ (a : Addr) (n : Nat), vs = [.ref a] ∧ Src H a n ∧ n ≤ 900000000 ∧
  ∀ H' i, Keep a H H' → Src H' a (n + 8) → Q (.int i) H'
structure TxtD (mg : Str → Option Value) : Prop where
  len : mg "len" = none
  abs : mg "abs" = none
  int : mg "int" = none
  range : mg "range" = none
abbrev FnP (K : PySem.W.Frag) (x : Str) (st : Stmt) (f : Addr) (fd : FuncData) : Prop := FunD K x x (defArgs st) (defBody st) (defScope st) [] [] f fd
section
variable {P : Program} {w : World} {K : PySem.W.Frag} {mg : Str → Option Value} {base : Heap}
theorem bool_ite {c : Prop} [Decidable c] {A B : Prop} (h1 : c → A) (h2 : ¬ c → B) : if decide c = true then A else B := by
  by_cases h : c
  · rw [decide_eq_true h, if_pos rfl]; exact h1 h
  · rw [decide_eq_false h, if_neg Bool.false_ne_true]; exact h2 h
theorem atI_get {α : Type} {xs : List α} {i : Int} (h0 : 0 ≤ i) (h1 : i < xs.length) : ∃ x, atI xs i = some x ∧ x ∈ xs := by
  have e : i.toNat < xs.length := by omega
  refine ⟨xs[i.toNat], ?_, List.getElem_mem e⟩
  unfold atI ixN
  rw [if_pos h0, if_pos h1]
  simp [e]
theorem fmod_src (x : Int) : 0 ≤ x.fmod 2305843009213693951 ∧ x.fmod 2305843009213693951 < 2305843009213693951 :=
  ⟨Int.fmod_nonneg_of_pos x (by decide), Int.fmod_lt_of_pos x (by decide)⟩

/-! a def of the top, called by its name -/
def DefIs (K : PySem.W.Frag) (mg : Str → Option Value) (x : Str) (st : Stmt) : Prop := ∃ f fd, mg x = some (.ref f) ∧ FnP K x st f fd
structure Cal (P : Program) (w : World) (K : PySem.W.Frag) (mg : Str → Option Value) (base : Heap) (CX : CXT) (x : Str) (k : Nat) (ps : List Str) (sp : Sp) : Prop where
  ex : ∃ f fd, mg x = some (.ref f) ∧ PySem.W.keepIn K (.ref f) = true ∧ FnOk P w K mg base CX k f fd ps sp ∧ Binds K fd ps []
end
section
variable {X : Cx} {x : Str} {p pos : Pos} {e : Expr} {es : List Expr} {t : TA} {k : Nat} {ps : List Str} {sp : Sp}
theorem pe_cal (c : Cal X.prog X.w X.K X.mg X.base CX0 x k ps sp) (hr : Room k X.A) (ha : PA X (e :: es) t) (hg : Gl X x := by rfl) (hdb : (x == ("__debug__" : Str)) = false := by decide)
    (he : starEach (e :: es) X.env = (false, eval e X.env) :: starEach es X.env := by rfl) (hpl : (backTo pos (starEach es X.env)).any (·.1) = false := by rfl) :
    PE X (.Call (.Name x p) (e :: es) [] pos) (tCall sp [] E0 t) := by
  obtain ⟨f, fd, hm, hk, F, b⟩ := c.ex
  exact pe_call F hr hg hm hk b .nil pass0 ha hdb he hpl
end
section
variable {P : Program} {w : World} {K : PySem.W.Frag} {mg : Str → Option Value} {base : Heap}
end
/-! words -/
def IsWord (z : Str) : Prop := 1 ≤ z.length ∧ z.length ≤ 8 ∧ ∀ c ∈ z.cps.toList, 97 ≤ c ∧ c ≤ 122
def abc : List Nat := [97, 98, 99, 100, 101, 102, 103, 104, 105, 106, 107, 108, 109, 110, 111, 112, 113, 114, 115, 116, 117, 118, 119, 120, 121, 122]
def sign (c : Nat) : Str := ⟨#[c]⟩
abbrev letters : Str := "abcdefghijklmnopqrstuvwxyz"
theorem letters_eq : letters = ⟨abc.toArray⟩ := by decide +kernel
theorem abc_le {c : Nat} (h : c ∈ abc) : 97 ≤ c ∧ c ≤ 122 := by
  have h2 : ∀ c ∈ abc, 97 ≤ c ∧ c ≤ 122 := by decide
  exact h2 c h
theorem tl_sign (c : Nat) : (sign c).cps.toList = [c] := rfl
theorem joinL_flat : ∀ l : List (List Nat), TL.joinL [] l = l.flatten
  | [] => rfl
  | [p] => by simp [TL.joinL]
  | p :: q :: r => by
    show p ++ ([] ++ TL.joinL [] (q :: r)) = _
    rw [joinL_flat (q :: r)]
    simp
theorem join_signs (e : Str) (he : e.cps = #[]) (cs : List Nat) : (Txt.join e (cs.map sign)).cps.toList = cs := by
  rw [TL.join_eq]
  have h : (Str.join e (cs.map sign)).cps.toList = TL.joinL e.cps.toList ((cs.map sign).map fun z => z.cps.toList) := TL.tl_join e (cs.map sign)
  rw [h, he]
  show TL.joinL [] _ = _
  rw [joinL_flat, List.map_map]
  clear h
  induction cs with
  | nil => rfl
  | cons c r ih =>
    rw [List.map_cons, List.flatten_cons, ih]
    rfl
theorem nodup_le : ∀ {l ts : List Str}, l.Nodup → (∀ x ∈ l, x ∈ ts) → l.length ≤ ts.length
  | [], _, _, _ => Nat.zero_le _
  | x :: l, ts, hn, hs => by
    have hx : x ∈ ts := hs x List.mem_cons_self
    have hn2 := List.nodup_cons.mp hn
    have ih := nodup_le (l := l) (ts := ts.erase x) hn2.2 fun y hy => by
      have ne : y ≠ x := fun e => hn2.1 (e ▸ hy)
      exact (List.mem_erase_of_ne ne).mpr (hs y (List.mem_cons_of_mem _ hy))
    rw [List.length_erase_of_mem hx] at ih
    have pos : 0 < ts.length := List.length_pos_of_mem hx
    simp only [List.length_cons]
    omega
def cand (w : Str) (c : Nat) : Str := cutS (sign c ++ w) none (some 8)
theorem tl_app (a b : Str) : (a ++ b).cps.toList = a.cps.toList ++ b.cps.toList := by
  rw [PySem.Str.cps_append, Array.toList_append]
theorem len_tl (a : Str) : a.length = a.cps.toList.length := by simp [Str.length]
theorem cand_tl (w : Str) (c : Nat) : (cand w c).cps.toList = (c :: w.cps.toList).take 8 := by
  unfold cand cutS
  have e : (sign c ++ w).cps.toList = c :: w.cps.toList := tl_app _ _
  have l : (sign c ++ w).length = w.cps.toList.length + 1 := by rw [len_tl, e]; rfl
  rw [e, l]
  have h8 : HT.sIx (w.cps.toList.length + 1) (w.cps.toList.length + 1) (some 8) = min 8 (w.cps.toList.length + 1) := HT.sIx_nat _ _ 8
  rw [h8]
  show (List.take (min 8 (w.cps.toList.length + 1) - 0) (List.drop 0 (c :: w.cps.toList))) = _
  rw [Nat.sub_zero, List.drop_zero]
  have : (c :: w.cps.toList).length = w.cps.toList.length + 1 := rfl
  rw [← this, ← List.take_eq_take_min]
theorem cand_word {w : Str} {c : Nat} (h : IsWord w) (hc : c ∈ abc) : IsWord (cand w c) := by
  have e := cand_tl w c
  obtain ⟨h1, h2, h3⟩ := h
  rw [len_tl] at h1 h2
  refine ⟨?_, ?_, fun d hd => ?_⟩
  · rw [len_tl, e]; simp
  · rw [len_tl, e]; simp; omega
  · rw [e] at hd
    rcases List.mem_cons.mp (List.mem_of_mem_take hd) with q | q
    · rw [q]; exact abc_le hc
    · exact h3 d q
theorem cand_inj {w : Str} {c d : Nat} (h : cand w c = cand w d) : c = d := by
  have e : (cand w c).cps.toList = (cand w d).cps.toList := by rw [h]
  rw [cand_tl, cand_tl] at e
  simpa using e
theorem free_some (w : Str) (ts : List Str) (h : ts.length ≤ 25) : abc.filter (fun c => !decide (cand w c ∈ ts)) ≠ [] := by
  intro e
  have ha : ∀ c ∈ abc, cand w c ∈ ts := fun c hc => by
    have := List.filter_eq_nil_iff.mp e c hc
    simpa using this
  have nd : (abc.map (cand w)).Nodup := by
    have h0 : abc.Nodup := by decide
    exact List.Pairwise.map _ (fun a b ne q => ne (cand_inj q)) h0
  have l := nodup_le nd (ts := ts) (fun x hx => by
    obtain ⟨c, hc, rfl⟩ := List.mem_map.mp hx
    exact ha c hc)
  rw [List.length_map] at l
  have : abc.length = 26 := rfl
  omega
theorem inV_str (w : Str) (ts : List Str) : inV (.str w) (ts.map V.str) = decide (w ∈ ts) := by
  unfold inV
  rw [List.any_map]
  apply Bool.eq_iff_iff.mpr
  simp only [List.any_eq_true, Function.comp, decide_eq_true_eq]
  constructor
  · rintro ⟨y, hy, e⟩
    have e2 : (y == w) = true := e
    exact (eq_of_beq e2) ▸ hy
  · intro h
    exact ⟨w, h, beq_self_eq_true w⟩
theorem flat_strs (ts : List Str) : (ts.map V.str).all flatV = true := by
  rw [List.all_map]
  exact List.all_eq_true.mpr fun _ _ => rfl
abbrev nWord : List Str := ["source", "taken", "letters", "word", "free", "turn", "letter"]
def spWord (K : PySem.W.Frag) : Sp := fun vs H Q _ => ∃ (a b : Addr) (n : Nat) (ts : List Str), vs = [.ref a, .ref b] ∧ Src H a n ∧ n ≤ 900000000 ∧ b ≠ a ∧ SqL K H b (ts.map V.str) ∧ ts.length ≤ 25 ∧
  ∀ H' w, Keep a H H' → Src H' a (n + 10) → IsWord w → w ∉ ts → Q (.str w) H'
section
variable {P : Program} {w : World} {K : PySem.W.Frag} {mg : Str → Option Value} {base : Heap}
theorem str_notmem {z : Str} {ts : List Str} {A B : Prop} (h1 : z ∉ ts → A) (h2 : z ∈ ts → B) : if (if true = true then !inV (.str z) (ts.map V.str) else inV (.str z) (ts.map V.str)) = true then A else B := by
  rw [if_pos rfl, inV_str]
  by_cases h : z ∈ ts
  · rw [decide_eq_true h, Bool.not_true, if_neg Bool.false_ne_true]; exact h2 h
  · rw [decide_eq_false h, Bool.not_false, if_pos rfl]; exact h1 h
theorem letters_cps : letters.cps = abc.toArray := by rw [letters_eq]
theorem abc_at {i : Int} (h0 : 0 ≤ i) (h1 : i < 26) : ∃ c, atI letters.cps.toList i = some c ∧ c ∈ abc := by
  rw [letters_cps]
  exact atI_get (xs := abc) h0 (by show i < 26; exact h1)
end
/-! isinstance of a caught error that has its own dict -/
def rIsED (K : PySem.W.Frag) (cls : Value) (d : Option Addr) (a : Addr) : List V → Hp → VK → Prop := fun xs H Q =>
  ∃ (D dd : Addr) (c : V) (cv : Value) (b : Bool) (fs : List (Str × V)), cls = .ref D ∧ d = some dd ∧ ExcC K D ∧ xs = [.ref a, c] ∧ (∀ u, RelV c u → u = cv) ∧ H dd = some (.xd fs) ∧ PySem.W.kitOne K (.ref D) cv = some b ∧ Q (.bl b) H
theorem call_isED {X : Cx} {a : Addr} {cls : Value} {d : Option Addr} {oe : Obj} {pn : List (Addr × Obj)} (hz : Zc cls d oe) (hf : ∃ vs, oe.data = .fields vs) :
    CallR (X.suite a ((a, oe) :: pn)) (.builtin "isinstance") (rIsED X.K cls d a) := by
  intro pins s σ H xs us Q I r h
  obtain ⟨D, dd, c, cv, b, fs, rfl, rfl, C, rfl, hcv, hdd, e, q⟩ := h
  obtain ⟨u1, u2, rfl, r1, r2⟩ := vals2 r
  obtain rfl : u1 = Value.ref a := r1
  obtain rfl := hcv _ r2
  have hp := (I.pin (a, oe) (List.mem_append_left _ List.mem_cons_self)).1
  obtain ⟨mA, hns, _⟩ := (show ObjOk X.prog X.w H s.heap dd (.xd fs) from I.hok dd _ hdd)
  obtain ⟨od, ho, _⟩ := lookIn_ns hns
  obtain ⟨vs, hv⟩ := hf
  have J : PySem.W.InstAt s.heap a oe D (some od) := ⟨hp, hz.1, by unfold PySem.W.notCls; rw [hv] <;> rfl, by rw [hz.2]; exact ho⟩
  have hc : (PySem.W.clsIn X.K D).isSome = true := by
    have z := C.hd
    unfold PySem.W.hasDictIn at z
    cases q : PySem.W.clsIn X.K D with
    | none => rw [q] at z; cases z
    | some y => rfl
  exact PySem.W.kia_one (PySem.W.kitx_exc hc C.hg C.hk C.hs C.ha C.hn C.ht C.hm) I.kIn J e (fun z => nomatch z) fun tk => ⟨.bl b, H, I.tok tk, rfl, q⟩
/-! f(k = v, ..), nothing by position, what it raises wished for at the caller's slots -/
def tCallKS (m : Nat) (sp : Sp) (gV : List V → List V → List V) (E : L2.St → XK) (tk : TA) : TE := fun σ H Q => tk σ H fun zs H2 => zs.length = m ∧ sp (gV [] zs) H2 Q (E σ)
section
variable {X : Cx} {CX : CXT} {k : Nat} {f : Addr} {fd : FuncData} {ps ks : List Str} {sp : Sp} {E : L2.St → XK} {x : Str} {p pos : Pos} {kws : List Keyword} {tk : TA} {g : List Value → List Value → List Value} {gV : List V → List V → List V}
theorem pe_callKS (F : FnOk X.prog X.w X.K X.mg X.base CX k f fd ps sp) (hr : Room k X.A) (hm : X.mg x = some (.ref f)) (hk : PySem.W.keepIn X.K (.ref f) = true) (hb : KBn X.K fd ps 0 ks g gV) (hx : ∀ σ, PassesAt CX X σ (E σ)) (hkw : PK X kws tk)
    (hg : Gl X x := by rfl) (hall : (backToKw pos (keywordEach kws X.env)).all (·.1.isSome) = true := by rfl) (hks : (backToKw pos (keywordEach kws X.env)).filterMap (·.1) = ks := by rfl) (hdb : (x == ("__debug__" : Str)) = false := by decide)
    (hpl : ((backTo pos (starEach [] X.env)).any (·.1) || (backToKw pos (keywordEach kws X.env)).any (·.1.isNone)) = false := by rfl) :
    PE X (.Call (.Name x p) [] kws pos) (tCallKS ks.length sp gV E tk) := by
  refine ⟨fun pins s σ H Q I h => wpAny_Call_Name_kw (ld_glob I hg hm ?_ hdb)⟩
  refine PySem.W.callWith_KW0 (h₀ := X.base) I.ok.mod.kin hk hall (thn (hkw.run pos pins s σ H _ I h) fun ws s2 ⟨zs, H2, I2, rz, l2, q2⟩ => ⟨I2.kIn, ?_⟩) hpl
  rw [hks]
  have r2 := hb.rel .nil rz
  have bt := hb.to s2 [] ws I2.kIn rfl (rz.length.symm.trans l2)
  refine wpAny_call (codeAny_mono (F.run X.A X.stack s2 H2 ⟨[], ks.zip ws⟩ (g [] ws) (gV [] zs) Q (E σ) hr I2.env0 bt r2 q2) fun r s' hq => ?_)
  match r, hq with
  | .error e, hq => exact hx σ pins H2 s2 e s' I2 hq
  | .ok (.ret u), hq => exact I2.after hq
  | .ok .next, hq => exact hq.elim
  | .ok .brk, hq => exact hq.elim
  | .ok .cont, hq => exact hq.elim
end
structure TxtP (mg : Str → Option Value) : Prop where
  isi : mg "isinstance" = none
  int : mg "int" = none
  bool : mg "bool" = none
  str : mg "str" = none
  list : mg "list" = none
  tuple : mg "tuple" = none
  dict : mg "dict" = none
  len : mg "len" = none
  all : mg "all" = none
  longest : ∃ t, mg "LONGEST_WORD" = some (.int 8 t)
/-- a value of a built-in type t -/
def IsTy (K : PySem.W.Frag) (H : Hp) (v : V) (t : String) : Prop := TyX K H v (.type t)
def NotTy (K : PySem.W.Frag) (H : Hp) (v : V) (c : String) : Prop := ∃ t, TyX K H v (.type t) ∧ kitB t c = some false
def isWordB (z : Str) : Bool := decide (1 ≤ z.length) && (decide (z.length ≤ 8) && z.cps.toList.all fun c => decide (97 ≤ c) && decide (c ≤ 122))
theorem isWordB_iff (z : Str) : isWordB z = true ↔ IsWord z := by
  unfold isWordB IsWord
  simp only [Bool.and_eq_true, decide_eq_true_eq, List.all_eq_true]
theorem isWordB_true {z : Str} (h : IsWord z) : isWordB z = true := (isWordB_iff z).mpr h
theorem isWordB_false {z : Str} (h : ¬ IsWord z) : isWordB z = false := by
  cases e : isWordB z with
  | false => rfl
  | true => exact absurd ((isWordB_iff z).mp e) h
def spIsInteger (K : PySem.W.Frag) : Sp := fun vs H Q _ => ∃ (v : V) (b : Bool), vs = [v] ∧
  ((b = true ∧ ∃ i, v = .int i) ∨ (b = false ∧ ((∃ c, v = .bl c) ∨ NotTy K H v "int"))) ∧ Q (.bl b) H
def spIsWord (K : PySem.W.Frag) : Sp := fun vs H Q _ => ∃ (v : V) (b : Bool), vs = [v] ∧
  ((∃ z, v = .str z ∧ z.length ≤ 1000 ∧ b = isWordB z) ∨ (b = false ∧ NotTy K H v "str")) ∧ ∀ H', Same H H' → Q (.bl b) H'
def spCopied (K : PySem.W.Frag) : Sp := fun vs H Q _ => ∃ (v : V), vs = [v] ∧ NotTy K H v "list" ∧ NotTy K H v "tuple" ∧ NotTy K H v "dict" ∧ Q v H
section
variable {P : Program} {w : World} {K : PySem.W.Frag} {mg : Str → Option Value} {base : Heap}
theorem ty_int {H : Hp} (i : Int) : TyX K H (.int i) (.type "int") := .base (.int i)
theorem ty_bl {H : Hp} (i : Bool) : TyX K H (.bl i) (.type "bool") := .base (.bl i)
theorem ty_str {H : Hp} (i : Str) : TyX K H (.str i) (.type "str") := .base (.str i)
theorem ty_non {H : Hp} : TyX K H .non (.type "NoneType") := .base .non
theorem lt_sign (c d : Nat) : decide (([c] : List Nat) < [d]) = decide (c < d) := by
  have : (([c] : List Nat) < [d]) ↔ c < d := by
    rw [List.cons_lt_cons_iff]
    simp
  simp only [this]
end
theorem exc_end {H : Hp} {a C d : Addr} {fs : List (Str × V)} (na : H a = none) (nd : upd H a (exo a C none) d = none) (da : d ≠ a) :
    H d = none ∧ Same H (upd (del (upd (upd (upd H a (exo a C none)) d (exd d fs)) a (exo a C (some d))) a) d (.xd fs)) := by
  have n2 : H d = none := by rw [upd_ne da] at nd; exact nd
  refine ⟨n2, fun b o h => ?_⟩
  rw [upd_ne (ne_of_none h n2), del_ne (ne_of_none h na), upd_ne (ne_of_none h na), upd_ne (ne_of_none h n2), upd_ne (ne_of_none h na)]
  exact h
theorem Same.new {H H1 : Hp} {p : Addr} {o : HO} (s : Same H H1) (h : H1 p = none) : Same H (upd H1 p o) := fun b u e => by
  rw [upd_ne (ne_of_none (s b u e) h)]
  exact s b u e
section
variable {P : Program} {w : World} {K : PySem.W.Frag} {mg : Str → Option Value} {base : Heap}
theorem nt_str {H : Hp} (z : Str) : NotTy K H (.str z) "list" ∧ NotTy K H (.str z) "tuple" ∧ NotTy K H (.str z) "dict" :=
  ⟨⟨_, ty_str z, by decide +kernel⟩, ⟨_, ty_str z, by decide +kernel⟩, ⟨_, ty_str z, by decide +kernel⟩⟩
theorem NotTy.same {H H1 : Hp} {v : V} {c : String} (s : Same H H1) (h : NotTy K H v c) : NotTy K H1 v c := by
  obtain ⟨t, ht, k⟩ := h
  refine ⟨t, ?_, k⟩
  cases ht with
  | base b => cases b with
    | non => exact .base .non
    | bl y => exact .base (.bl y)
    | int i => exact .base (.int i)
    | str y => exact .base (.str y)
    | flt y => exact .base (.flt y)
    | lst e => exact .base (.lst (s _ _ e))
    | frz e => exact .base (.frz (s _ _ e))
    | tup e => exact .base (.tup (s _ _ e))
    | dK e => exact .base (.dK (s _ _ e))
    | dT e => exact .base (.dT (s _ _ e))
  | byt b => exact .byt b
  | set e => exact .set (s _ _ e)
  | kList e c => exact .kList e c
  | kTuple e c => exact .kTuple e c
  | kDict e c => exact .kDict e c
  | fTuple e => exact .fTuple (s _ _ e)
  | fDict e => exact .fDict (s _ _ e)
theorem not_nt_str {H : Hp} {z : Str} (h : NotTy K H (.str z) "str") : False := by
  obtain ⟨t, ht, k⟩ := h
  generalize hv : V.str z = v at ht
  generalize hu : Value.type t = u at ht
  cases ht with
  | base b =>
    cases b with
    | str y =>
      cases hu
      exact absurd k (by decide +kernel)
    | _ => cases hv
  | _ => cases hv
end
def oddStrs : List Str := ["", "abcdefghi", "A", "aB", "a1", "a b", " a", "a_", "-"]
inductive Odd (a : Addr) (H : Hp) : V → Prop where
  | str {z : Str} (h : z ∈ oddStrs) : Odd a H (.str z)
  | non : Odd a H .non
  | int (i : Int) : Odd a H (.int i)
  | bl (b : Bool) : Odd a H (.bl b)
  | tup {p : Addr} {xs : List V} (n : p ≠ a) (h : H p = some (.tup xs)) (e : xs = [] ∨ xs = [.str "a"]) : Odd a H (.ref p)
  | lst {p : Addr} {xs : List V} (n : p ≠ a) (h : H p = some (.lst xs)) (e : xs = [] ∨ xs = [.str "a"]) : Odd a H (.ref p)
  | dic {p : Addr} (n : p ≠ a) (h : H p = some (.dK [(.inr "a", .str "b")])) : Odd a H (.ref p)
theorem Odd.keep {a : Addr} {H H' : Hp} {v : V} (k : Keep a H H') (h : Odd a H v) : Odd a H' v := by
  cases h with
  | str h => exact .str h
  | non => exact .non
  | int i => exact .int i
  | bl b => exact .bl b
  | tup n h e => exact .tup n (k _ _ n h) e
  | lst n h e => exact .lst n (k _ _ n h) e
  | dic n h => exact .dic n (k _ _ n h)
theorem odd_notword {K : PySem.W.Frag} {a : Addr} {H : Hp} {v : V} (h : Odd a H v) : (∃ z, v = .str z ∧ z.length ≤ 1000 ∧ ¬ IsWord z) ∨ NotTy K H v "str" := by
  cases h with
  | @str z h =>
    have e : ∀ z ∈ oddStrs, (decide (z.length ≤ 1000) && !isWordB z) = true := by decide +kernel
    have e2 := e z h
    simp only [Bool.and_eq_true, decide_eq_true_eq, Bool.not_eq_true'] at e2
    exact .inl ⟨z, rfl, e2.1, fun hw => by rw [isWordB_true hw] at e2; cases e2.2⟩
  | non => exact .inr ⟨_, ty_non, by decide +kernel⟩
  | int i => exact .inr ⟨_, ty_int i, by decide +kernel⟩
  | bl b => exact .inr ⟨_, ty_bl b, by decide +kernel⟩
  | tup n h e => exact .inr ⟨_, .base (.tup h), by decide +kernel⟩
  | lst n h e => exact .inr ⟨_, .base (.lst h), by decide +kernel⟩
  | dic n h => exact .inr ⟨_, .base (.dK h), by decide +kernel⟩
theorem same_new2 {H : Hp} {p : Addr} {o u : HO} (n : H p = none) : Same H (upd (upd H p o) p u) := fun b x h => by
  rw [upd_ne (ne_of_none h n), upd_ne (ne_of_none h n)]
  exact h
def spOdd : Sp := fun vs H Q _ => ∃ (a : Addr) (n : Nat), vs = [.ref a] ∧ Src H a n ∧ n ≤ 900000000 ∧ ∀ H' v, Keep a H H' → Src H' a (n + 1) → Odd a H' v → Q v H'
theorem Src.same {H H1 : Hp} {a : Addr} {n : Nat} (s : Same H H1) (h : Src H a n) : Src H1 a n := by
  obtain ⟨d, x, t, h1, h2⟩ := h
  exact ⟨d, x, t, s _ _ h1, h2⟩
section
variable {P : Program} {w : World} {K : PySem.W.Frag} {mg : Str → Option Value} {base : Heap}
end
theorem kb_of {K : PySem.W.Frag} {x qual : Str} {params : Arguments} {body : List Stmt} {scope : Scope} {kws : List (Str × V)} {f : Addr} {fd : FuncData} {ps : List Str} (F : FunD K x qual params body scope [] kws f fd)
    (h : ∀ (kV doc pm : Value) (an : Option Addr) (cdv ct : Value) (ws : List Value), ws.length = ps.length → bindArgs (PySem.W.fnOf x qual params body scope .none kV doc pm an cdv ct) ⟨[], ps.zip ws⟩ = pure (ps.zip ws)) : KBn K fd ps 0 ps (fun _ ws => ws) (fun _ zs => zs) := by
  obtain ⟨oc, od, dV, kV, doc, pm, an, cdv, ct, osl, rfl, lk, hcd, hD, hK⟩ := F.ex
  rcases hD with ⟨_, rfl⟩ | ⟨e, _⟩
  · exact ⟨fun s us ws _ l1 l2 => by
      obtain rfl : us = [] := List.length_eq_zero_iff.mp l1
      exact .of_eq (h kV doc pm an cdv ct ws l2), fun _ r => r⟩
  · exact absurd rfl e
end Lw
namespace Hk
open PySem PySem.Spec PyProof.Rows L2
/-! a Hook: facts, defs, tables, one Bool more -/
abbrev Al : Type := He.AlT × Bool
def obG (n : Nat) (fa : List He.Fa) (fn : List He.DefD) (ts : List He.Tab) (own : PySem.W.Frag → Bool) (g : Addr → Option Obj) : Al := (He.obsTG n fa fn ts g, own (He.frG g (He.asD g n)))
def Says (fa : List He.Fa) (fn : List He.DefD) (ts : List He.Tab) (own : PySem.W.Frag → Bool) (w : World) (K : PySem.W.Frag) : Prop := He.SaysT fa fn ts w K ∧ own K = true
def hook (n : Nat) (fa : List He.Fa) (fn : List He.DefD) (ts : List He.Tab) (own : PySem.W.Frag → Bool) : PySem.W.Hook where
  α := Al
  obs := fun s => obG n fa fn ts own s.heap.get?
  val := fun w => (He.valT fn ts w, true)
  says := fun w h => ∃ K : PySem.W.Frag, K.In h ∧ Says fa fn ts own w K
  of := fun _ _ e => ⟨_, He.frG_in, congrArg Prod.fst e, congrArg Prod.snd e⟩
  keeps := fun _ _ _ ⟨K, hK, c⟩ k => ⟨K, PySem.W.Frag.In.keeps hK k, c⟩
theorem obG_eq {n : Nat} {fa : List He.Fa} {fn : List He.DefD} {ts : List He.Tab} {own : PySem.W.Frag → Bool} {g : Addr → Option Obj} {s : Shared} (h : ∀ a, g a = s.heap.get? a) : obG n fa fn ts own g = (hook n fa fn ts own).obs s := by
  rw [show g = s.heap.get? from funext h] <;> rfl
/-- an own error class over ValueError with an own __init__ -/
def oexB (K : PySem.W.Frag) (C : Addr) : Bool := match K.lookup C with
  | some ⟨.type t, _, .cls ⟨_, _, .ref c :: bm, _, _, true, _, _, _, _, false⟩, sl⟩ => (decide (t = "type") && (decide (c = C) && PySem.HandSPX.refsVE bm)) && (match sl.toList with
    | [_, _, _, _, some (.builtin z), _] => decide (z = "ValueError.__new__")
    | _ => false)
  | _ => false
def clsB (K : PySem.W.Frag) (C : Addr) : Bool := oexB K C && (He.eqO (PySem.W.findIn K (.ref C) "__setattr__") (some (some (.builtin "object.__setattr__"))) && (decide (PySem.W.subIn K (.ref C) (.type "BaseException") = some true) &&
  (decide (PySem.W.typeIn K (.ref C) = some (.type "type")) && PySem.W.keepIn K (.ref C))))
theorem oexB_ok {K : PySem.W.Frag} {C : Addr} (h : clsB K C = true) : OexC K C := by
  obtain ⟨h1, h⟩ := He.ba h
  obtain ⟨h2, h⟩ := He.ba h
  obtain ⟨h3, h⟩ := He.ba h
  obtain ⟨h4, h5⟩ := He.ba h
  refine ⟨?_, He.eqO_ok h2, of_decide_eq_true h3, of_decide_eq_true h4, h5⟩
  unfold oexB at h1
  split at h1
  · rename_i t dd nm bs c bm N qn sn sub ab col sl e
    obtain ⟨q1, q2⟩ := He.ba h1
    obtain ⟨q3, q4⟩ := He.ba q1
    obtain ⟨q5, q6⟩ := He.ba q4
    have e1 := of_decide_eq_true q3
    have e2 := of_decide_eq_true q5
    subst e1 e2
    split at q2
    · rename_i k0 k1 k2 k3 z k5 es
      have e3 := of_decide_eq_true q2
      subst e3
      obtain ⟨sl⟩ := sl
      simp only at es
      subst es
      exact ⟨nm, qn, N, bs, bm, sn, sub, ab, col, dd, k0, k1, k2, k3, k5, e, q6⟩
    · cases q2
  · cases h1
/-- isinstance asks its instances rightly -/
def excB (K : PySem.W.Frag) (D : Addr) : Bool := L2.xfB K D && (He.eqO (PySem.W.findIn K (.ref D) "__class__") (some (some (.builtin "object.__class__"))) && (decide (PySem.W.mroIn K D (.type "object") = some true) && getB K))
where getB (K : PySem.W.Frag) : Bool := decide (PySem.W.specialIn K (.builtin "object.__class__") "__get__" = some (some (.builtin "getset_descriptor.__get__"))) && decide (PySem.W.takesIn K (.builtin "object.__class__") = some true)
theorem excB_ok {K : PySem.W.Frag} {D : Addr} (h : excB K D = true) : ExcC K D ∧ XfC K D := by
  obtain ⟨h1, h⟩ := He.ba h
  obtain ⟨h2, h⟩ := He.ba h
  obtain ⟨h3, h⟩ := He.ba h
  obtain ⟨h4, h5⟩ := He.ba h
  have x := L2.xfB_ok h1
  exact ⟨⟨x.ga, x.gg, x.exC, x.hdC, He.eqO_ok h2, of_decide_eq_true h4, of_decide_eq_true h5, of_decide_eq_true h3⟩, x⟩
/-- isinstance of an own class's instances -/
def insB (K : PySem.W.Frag) (D : Addr) : Bool := He.eqO (PySem.W.findIn K (.ref D) "__class__") (some (some (.builtin "object.__class__"))) && (decide (PySem.W.mroIn K D (.type "object") = some true) && excB.getB K)
end Hk

set_option Elab.async false
set_option linter.all false
set_option maxRecDepth 100000
set_option maxHeartbeats 4000000
namespace Lw
open PySem PySem.Spec PyProof.Rows L2
/-! an own error with an own __init__, made: its context is None -/
section
variable {X : Cx} {CX : CXT} {x : Str} {e : Expr} {es : List Expr} {ta : TA} {p pos : Pos} {C fI : Addr} {k : Nat} {fd : FuncData} {ps : List Str} {sp : Sp} {ds : List Value} {dvs : List V}
theorem pmk_oexN (T : OexC X.K C) (iC : PySem.W.findIn X.K (.ref C) "__init__" = some (some (.ref fI))) (tI : PySem.W.typeIn X.K (.ref fI) = some (.type "function")) (F1 : FnOk X.prog X.w X.K X.mg X.base CX k fI fd ps sp) (hr : Room (k + 1) X.A) (hb : Binds X.K fd ps ds)
    (hd : Vals dvs ds) (hx : Passes CX X (fun _ _ _ => False)) (hm : X.mg x = some (.ref C)) (ha : PA X (e :: es) ta) (hg : Gl X x := by rfl) (hdb : (x == ("__debug__" : Str)) = false := by decide) (he : starEach (e :: es) X.env = (false, eval e X.env) :: starEach es X.env := by rfl)
    (hpl : (backTo pos (starEach es X.env)).any (·.1) = false := by rfl) : L2N.PMk X (.Call (.Name x p) (e :: es) [] pos) (tMkO C sp dvs ta) := fun pins s σ H Q I h => by
  obtain ⟨nm, qn, N, bs, bm, sn, sub, ab, col, dd, k0, k1, k2, k3, k5, hC, hbm⟩ := T.cls
  refine wpAny_Call_Name_kw (ld_glob I hg hm (PySem.W.callWith_K (h₀ := X.base) I.ok.mod.kin T.kC (thn (ha.run pos pins s σ H _ I h) fun us st ⟨vs, H1, J, rv, hz, q1⟩ => ⟨J.kIn, ?_⟩) he hpl) hdb)
  show wpAny _ _ (call (.ref C) us) _ _ _
  obtain ⟨hp, g, dr, tk, os⟩ := st
  have up : hp.objs.size ≤ hp.objs.size + 1 := by omega
  have spec := q1 (hp.objs.size + 1) (J.hok.fresh up)
  have stay : ∀ b o, hp.get? b = some o → ((hp.push (PySem.W.kdv_tup us)).push (PySem.HandSPX.excO C hp.objs.size)).get? b = some o := fun b o z => Heap.get?_push_of_some _ (Heap.get?_push_of_some _ z)
  have there : ((hp.push (PySem.W.kdv_tup us)).push (PySem.HandSPX.excO C hp.objs.size)).get? (hp.objs.size + 1) = some (PySem.HandSPX.excO C hp.objs.size) := by heap_get
  have J2 := J.laid (t' := tk) (a := hp.objs.size + 1) (o := exo (hp.objs.size + 1) C none) (h' := (hp.push (PySem.W.kdv_tup us)).push (PySem.HandSPX.excO C hp.objs.size)) stay up (exo_ok there)
  have rel : Vals (V.ref (hp.objs.size + 1) :: (vs ++ dvs)) (Value.ref (hp.objs.size + 1) :: (us ++ ds)) := .cons rfl (rv.append hd)
  have len : (Value.ref (hp.objs.size + 1) :: us ++ ds).length = ps.length := (F1.len _ _ _ _ spec ▸ rel.length).symm
  have line : us.length ≤ sizeLine := by rw [← Paired.length rv, sizeLine_eq]; omega
  refine wpAny_call (PySem.HandSPX.call_own F.excBase_ValueError (fun Y => PySem.HandSPX.refsVE_contains Y bm hbm) (J.kIn _ _ hC) (PySem.W.looks_findIn J.kIn iC) (fun self => PySem.W.bind_fn J.kIn self tI) line
    (codeAny_mono (F1.run _ X.stack _ _ ⟨Value.ref (hp.objs.size + 1) :: us, []⟩ (Value.ref (hp.objs.size + 1) :: (us ++ ds)) _ _ (fun _ _ _ => False) (hr.make C us []) (J2.env0.make C us []) (hb _ (Value.ref (hp.objs.size + 1) :: us) J2.kIn len) rel spec) fun r s' back => ?_))
  match r, back with
  | .error er, back => exact hx pins σ _ _ er s' J2 back
  | .ok .next, back => exact back.elim
  | .ok .brk, back => exact back.elim
  | .ok .cont, back => exact back.elim
  | .ok (.ret u), back =>
    obtain ⟨v, H2, os2, bare2, un2, hok2, rv2, ev, d, fs, ea, ed, hd1, q2⟩ := back
    subst ev
    obtain ⟨h2, g2, d2, t2, os'⟩ := s'
    obtain ⟨t0, G, JG, kG, ge, hoe, na⟩ := mk_end0 (d2 := d2) (t2 := t2) J up stay un2 hok2 os2 bare2 ea ed hd1
    exact ⟨rv2, _, _, _, ⟨G, g2, d2, t2, os'⟩, _, .ref C, some d, rfl, JG, kG, ge, hoe, ⟨rfl, rfl, fun z ez => by cases ez; rfl⟩, rfl, rfl, na, rfl, bare2, raises_own T.exC T.tyC, q2⟩
/-! C(e, ..), C what a local name holds -/
def tMakeL (i : Nat) (C : Addr) (sp : Sp) (E : XK) (t : TA) : TE := fun σ H Q => σ[i]? = some (some (.ref C)) ∧ tMake C sp [] E t σ H Q
theorem pe_makeL {E : XK} {t : TA} {i f : Nat} (M : Mk X.K C f) (F : FnOk X.prog X.w X.K X.mg X.base CX k f fd ps sp) (hr : Room (k + 1) X.A) (hN : X.N[i]? = some x) (hv : Vis X.env.scope x) (hb : Binds X.K fd ps []) (hx : Passes CX X E) (ha : PA X (e :: es) t)
    (hdb : (x == ("__debug__" : Str)) = false := by decide) (hcd : (x == ("__classdict__" : Str)) = false := by decide) (he : starEach (e :: es) X.env = (false, eval e X.env) :: starEach es X.env := by rfl) (hpl : (backTo pos (starEach es X.env)).any (·.1) = false := by rfl) :
    PE X (.Call (.Name x p) (e :: es) [] pos) (tMakeL i C sp E t) := ⟨fun pins s σ H Q I ⟨hs, ht⟩ => by
  refine wpAny_Call_Name_kw (thn ((pe_var (pos := p) hN hv hdb hcd).run pins s σ H (fun v H1 => v = .ref C ∧ H1 = H) I ⟨.ref C, hs, rfl, rfl⟩) fun u s1 ⟨v, H1, J, r1, e1, e2⟩ => ?_)
  subst e1 e2
  obtain rfl : u = Value.ref C := r1
  exact PySem.W.callWith_K (h₀ := X.base) J.ok.mod.kin M.kp (thn (ha.run pos pins s1 σ H1 _ J ht) fun us s2 ⟨vs, H2, J2, r, q⟩ => ⟨J2.kIn, run_make M F hr hb .nil hx J2 r q⟩) he hpl⟩
/-! what a try's body lets out, whatever its slots are -/
def WL (X : Cx) (W : WX) : XK := fun cls d H => ∀ σ : L2.St, σ.length = X.N.length → W cls d σ H
theorem passL {W : WX} (tk : L2N.Takes X W) : Passes (L2N.CX X.prog X.w) X (WL X W) := fun pins σ H s u s' I c => by
  obtain ⟨a, B, H', cls, d, hu, fl, hok, ub, na, os, ag, hE⟩ := c
  exact tk u s' (L2N.XE.of_call (W := W) (E := fun c d H => W c d σ H) I (fun _ _ _ z => z) ⟨a, B, H', cls, d, hu, fl, hok, ub, na, os, ag, hE σ I.len⟩)
end
/-! a def called while an error is handled -/
theorem okH {CX : CXT} {P : Program} {w : World} {K : PySem.W.Frag} {mg : Str → Option Value} {base : Heap} {k : Nat} {x qual : Str} {params : Arguments} {bd : List Stmt} {scope : Scope} {dvs : List V} {kws : List (Str × V)} {f : Addr} {fd : FuncData} {N ps : List Str} {sp : Sp}
    (F : FunD K x qual params bd scope dvs kws f fd) (S : FnScope N ps scope) (len : ∀ vs H Q E, sp vs H Q E → vs.length = ps.length)
    (hb : ∀ (cdv : Value) (A : Around) (outer : List Env) (s : Shared) (H : Hp) (vs : List V) (Q : VK) (E : XK) (p : Addr × Obj), L2H.Hot1 A p → L2H.RoomH k (A.deeper (envOfC qual scope s.heap.objs.size f cdv)) → sp vs H Q E →
      ∃ t, PSs (L2H.cxH CX P w K mg base N qual scope f cdv A outer s H E p) bd t ∧ t { nx := fun _ H' => Q .non H', rt := Q } (start N vs) H) : L2H.FnH P w K mg base CX (k + 1) f fd ps sp := by
  obtain ⟨oc, od, dV, kV, doc, pm, an, cdv, ct, osl, rfl, lk, hcd, _, _⟩ := F.ex
  exact L2H.fn_ofH lk hcd S len fun A outer s H vs Q E p h1 h2 h3 => hb cdv A outer s H vs Q E p h1 h2 h3
end Lw

set_option Elab.async false
set_option linter.all false
set_option maxRecDepth 100000
set_option maxHeartbeats 4000000
namespace Tr
open PySem PySem.Spec PyProof.Rows L2
/-! rules that the terms of filters need -/
section
variable {X : Cx}
def b2n (b : Bool) : Int := if b = true then 1 else 0
/-- bool - bool -/
theorem op_subBl : OpR X (binaryOp .Sub) (fun x y H Q => ∃ a b : Bool, x = .bl a ∧ y = .bl b ∧ Q (.int (b2n a - b2n b)) H) := by
  intro pins s σ H x y v u Q I rx ry h
  obtain ⟨a, b, rfl, rfl, q⟩ := h
  cases (show v = Value.bool a from rx)
  cases (show u = Value.bool b from ry)
  exact PyProof.Rows.sub_bool ⟨.int _, H, I.tok _, ⟨_, rfl⟩, q⟩
/-- x is b, x None or a bool, b a bool -/
theorem op_isNb : OpR X (compareOp .Is) (fun x y H Q => ∃ (a : Option Bool) (b : Bool), x = (match a with | some c => .bl c | none => .non) ∧ y = .bl b ∧ Q (.bl (decide (a = some b))) H) := by
  intro pins s σ H x y v u Q I rx ry h
  obtain ⟨a, b, rfl, rfl, q⟩ := h
  cases (show u = Value.bool b from ry)
  cases a with
  | none =>
    cases (show v = Value.none from rx)
    exact wpAny_is_other rfl (fun z => by cases z) ⟨.bl false, H, I, rfl, by simpa using q⟩
  | some c =>
    cases (show v = Value.bool c from rx)
    by_cases e : c = b
    · subst e
      exact wpAny_is_self rfl ⟨.bl true, H, I, rfl, by simpa using q⟩
    · exact wpAny_is_other rfl (fun z => e (Value.bool.inj z)) ⟨.bl false, H, I, rfl, by simpa [e] using q⟩
/-- d[k], d a written dict -/
def tKd (K : PySem.W.Frag) (d : Addr) (td ty : TE) : TE := fun σ H Q => td σ H fun x H1 => ty σ H1 fun y H2 => ∃ (z : Str) (u0 : Value) (v0 : V), x = .ref d ∧ y = .str z ∧ PySem.W.nsIn K d z = some (some u0) ∧ RelV v0 u0 ∧ Q v0 H2
theorem pe_kd {o i : Expr} {pos : Pos} {td ty : TE} {d : Addr} {es : Array DictEntry} {n : Nat} (D : KDict X.K X.w d es n) (ho : PE X o td) (hi : PE X i ty) (hs : NoSl i) : PE X (.Subscript o i pos) (tKd X.K d td ty) := by
  constructor
  intro pins s σ H Q I h
  refine subD_of PySem.F.slot_dict_getitem.lookup hs (thn (ho.run pins s σ H _ I h) ?_)
  rintro u s1 ⟨x, H1, I1, rx, q1⟩
  refine thn (hi.run pins s1 σ H1 _ I1 q1) ?_
  rintro iv s2 ⟨y, H2, I2, ry, z, u0, v0, rfl, rfl, e, r, q⟩
  obtain rfl : u = Value.ref d := rx
  exact ⟨kd_type D I2, op_item_kd D pins s2 σ H2 (.ref d) (.str z) (.ref d) iv Q I2 rfl ry ⟨z, u0, v0, rfl, rfl, e, r, q⟩⟩
end
end Tr

set_option Elab.async false
set_option linter.all false
set_option maxRecDepth 100000
set_option maxHeartbeats 4000000
namespace Lw
open PySem PySem.Spec PyProof.Rows L2
def top (i : Nat) : Stmt := PySem.Challenge.pw_filteredcopies_k14_filters_stay.main.body.getD i (.Pass ⟨0, 0, 0, 0⟩)
abbrev sCellT : Stmt := top 33
abbrev sJoined : Stmt := top 31
abbrev sTested : Stmt := top 32
abbrev sWeigh : Stmt := top 30
abbrev sFI : Stmt := inClass (top 37) 0
abbrev sInv : Stmt := inClass (top 37) 3
abbrev sAnd : Stmt := inClass (top 37) 4
abbrev sOr : Stmt := inClass (top 37) 5
abbrev sXor : Stmt := inClass (top 37) 7
abbrev sMasks : Stmt := inClass (top 37) 9
abbrev sEvery : Stmt := inClass (top 37) 1
abbrev sNothing : Stmt := inClass (top 37) 2
section
variable {P : Program} {w : World} {K : PySem.W.Frag} {mg : Str → Option Value} {base : Heap}
/-! one term of a filter -/
inductive Tm where
  | every | nothing | not | and | or | xor
  | cmp (y z : Str) (i : Int)
  | emp (z : Str)
def Tm.vs : Tm → List V
  | .every => [.str "every", .non, .non]
  | .nothing => [.str "nothing", .non, .non]
  | .not => [.str "~", .non, .non]
  | .and => [.str "&", .non, .non]
  | .or => [.str "|", .non, .non]
  | .xor => [.str "^", .non, .non]
  | .cmp y z i => [.str y, .str z, .int i]
  | .emp z => [.str "empty", .str z, .non]
def signs : List Str := ["=", "!=", "<", "<=", ">", ">="]
/-- the places that a sign accepts -/
def places (y : Str) : List Int := if y = "=" then [0] else if y = "!=" then [-1, 1] else if y = "<" then [-1] else if y = "<=" then [-1, 0] else if y = ">" then [1] else [0, 1]
/-- where a cell stands beside a number -/
def place (c i : Int) : Int := Tr.b2n (decide (i < c)) - Tr.b2n (decide (c < i))
def cellT (y : Str) (i : Int) (c : Option Int) : Option Bool := match c with
  | none => none
  | some c => some (decide (place c i ∈ places y))
def tV (t : Option Bool) : V := match t with
  | some c => .bl c
  | none => .non
def cV : Option Int → V
  | none => .non
  | some i => .int i
structure TxtTm (K : PySem.W.Frag) (mg : Str → Option Value) (w : World) (dS : Addr) : Prop where
  gS : mg "SIGNS" = some (.ref dS)
  kd : ∃ es n, KDict K w dS es n
  at_ : ∀ y ∈ signs, ∃ t : Addr, PySem.W.nsIn K dS y = some (some (.ref t)) ∧ ∀ H, SqT K H t ((places y).map V.int)
  empty : ∃ t, mg "EMPTY" = some (.str "empty" t)
  every : ∃ t, mg "EVERY" = some (.str "every" t)
  nothing : ∃ t, mg "NOTHING" = some (.str "nothing" t)
  not : ∃ t, mg "NOT" = some (.str "~" t)
  and : ∃ t, mg "AND" = some (.str "&" t)
  or : ∃ t, mg "OR" = some (.str "|" t)
  xor : ∃ t, mg "XOR" = some (.str "^" t)
theorem signs_not {y : Str} (h : y ∈ signs) : y ≠ "empty" ∧ y ≠ "every" ∧ y ≠ "nothing" ∧ y ≠ "~" ∧ y ≠ "&" ∧ y ≠ "|" ∧ y ≠ "^" := by
  have e : ∀ y ∈ signs, y ≠ "empty" ∧ y ≠ "every" ∧ y ≠ "nothing" ∧ y ≠ "~" ∧ y ≠ "&" ∧ y ≠ "|" ∧ y ≠ "^" := by decide +kernel
  exact e y h
theorem inV_int (i : Int) (ns : List Int) : inV (.int i) (ns.map V.int) = decide (i ∈ ns) := by
  unfold inV
  rw [List.any_map]
  apply Bool.eq_iff_iff.mpr
  simp only [List.any_eq_true, Function.comp, decide_eq_true_eq]
  constructor
  · rintro ⟨y, hy, e⟩
    have e2 : (y == i) = true := e
    exact (eq_of_beq e2) ▸ hy
  · intro h
    exact ⟨i, h, beq_self_eq_true i⟩
theorem flat_ints (ns : List Int) : (ns.map V.int).all flatV = true := by
  rw [List.all_map]
  exact List.all_eq_true.mpr fun _ _ => rfl
theorem strI {a b : Str} {A B : Prop} (h1 : a = b → A) (h2 : a ≠ b → B) : if decide (V.str a = V.str b) = true then A else B := by
  by_cases e : a = b
  · rw [if_pos (by rw [decide_eq_true_eq, e])]; exact h1 e
  · rw [if_neg (by rw [decide_eq_true_eq]; exact fun z => e (V.str.inj z))]; exact h2 e
/-- _cell_truth: of a comparison, of a test -/
def spCellT : Sp := fun vs H Q _ => (∃ (y : Str) (i : Int) (c : Option Int), vs = [.str y, .int i, cV c] ∧ y ∈ signs ∧ Q (tV (cellT y i c)) H) ∨ (∃ (m : V) (c : Option Int), vs = [.str "empty", m, cV c] ∧ Q (.bl (decide (c = none))) H)
theorem scCellT : FnScope ["sign", "number", "cell", "place"] ["sign", "number", "cell"] (defScope sCellT) := ⟨rfl, rfl, rfl, by decide +kernel, rfl, by decide +kernel, by decide +kernel⟩
theorem ok_cellT {dS f : Addr} {fd : FuncData} (F : FnP K "_cell_truth" sCellT f fd) (T : TxtTm K mg w dS) : FnOk P w K mg base CX0 1 f fd ["sign", "number", "cell"] spCellT := by
  obtain ⟨es, n0, D⟩ := T.kd
  obtain ⟨te, he⟩ := T.empty
  refine F.ok scCellT (fun vs H Q E h => ?_) (fun cdv A outer s H vs Q E hr h => ?_)
  · rcases h with ⟨y, i, c, rfl, _⟩ | ⟨m, c, rfl, _⟩ <;> rfl
  · have nd := scCellT.nd
    refine ⟨_, PSs.nox (pss_cons (ps_if (pt_cmpR op_eq (pv 0) (pe_glob (v := .str "empty") rfl he ⟨_, rfl⟩) (nomark _)) (pss_one (ps_ret (pe_cmpR op_isN (pv 2) pe_non (nomark _)))) pss_nil)
      (pss_cons (ps_if (pt_cmpR op_isN (pv 2) pe_non (nomark _)) (pss_one (ps_ret pe_non)) pss_nil)
      (pss_cons (ps_set (i := 3) nd rfl (Or.inl rfl) (pe_op Tr.op_subBl (pe_cmpR op_gt (pv 2) (pv 1) (nomark _)) (pe_cmpR op_lt (pv 2) (pv 1) (nomark _))))
      (pss_one (ps_ret (pe_cmpR op_in_seq (pv 3) (Tr.pe_kd D (pe_glob (v := .ref dS) rfl T.gS rfl) (pv 0) (fun _ _ => rfl)) (by rfl))))))), ?_⟩
    rcases h with ⟨y, i, c, rfl, hy, k⟩ | ⟨m, c, rfl, k⟩
    · refine ⟨_, rfl, rfl, _, rfl, strI (fun e => absurd e (signs_not hy).1) (fun _ => ?_)⟩
      cases c with
      | none => exact ⟨_, rfl, rfl, _, rfl, k⟩
      | some c =>
        refine ⟨_, rfl, rfl, _, rfl, ?_⟩
        obtain ⟨t, e1, e2⟩ := T.at_ y hy
        refine ⟨_, rfl, _, rfl, _, _, rfl, rfl, _, rfl, _, rfl, _, _, rfl, rfl, _, _, rfl, rfl, ?_⟩
        refine ⟨_, rfl, _, rfl, y, .ref t, .ref t, rfl, rfl, e1, rfl, t, _, rfl, .inr (e2 H), rfl, flat_ints _, ?_⟩
        have e3 : inV (.int (place c i)) ((places y).map V.int) = decide (place c i ∈ places y) := inV_int _ _
        show Q (.bl (inV (.int (place c i)) ((places y).map V.int))) H
        rw [e3]
        exact k
    · refine ⟨_, rfl, rfl, _, rfl, strI (fun _ => ?_) (fun e => absurd rfl e)⟩
      refine ⟨_, rfl, rfl, ?_⟩
      cases c with
      | none => exact k
      | some c => exact k
/-! truths as masks of one entry -/
def yI (t : Option Bool) : Int := if t = some true then 1 else 0
def nI (t : Option Bool) : Int := if t = some false then 1 else 0
abbrev pairV (t : Option Bool) : List V := [.int (yI t), .int (nI t)]
def and3 : Option Bool → Option Bool → Option Bool
  | some false, _ => some false
  | _, some false => some false
  | some true, some true => some true
  | _, _ => none
def or3 : Option Bool → Option Bool → Option Bool
  | some true, _ => some true
  | _, some true => some true
  | some false, some false => some false
  | _, _ => none
def xor3 : Option Bool → Option Bool → Option Bool
  | some a, some b => some (a != b)
  | _, _ => none
def not3 : Option Bool → Option Bool
  | some a => some (!a)
  | none => none
def join3 (s : Str) (a b : Option Bool) : Option Bool := if s = "&" then and3 a b else if s = "|" then or3 a b else xor3 a b
theorem bits_and : ∀ a b : Option Bool, Builtin.bitAnd (yI a) (yI b) = yI (and3 a b) ∧ Builtin.bitOr (nI a) (nI b) = nI (and3 a b) := by
  intro a b
  rcases a with _ | _ | _ <;> rcases b with _ | _ | _ <;> decide +kernel
theorem bits_or : ∀ a b : Option Bool, Builtin.bitOr (yI a) (yI b) = yI (or3 a b) ∧ Builtin.bitAnd (nI a) (nI b) = nI (or3 a b) := by
  intro a b
  rcases a with _ | _ | _ <;> rcases b with _ | _ | _ <;> decide +kernel
theorem bits_xor : ∀ a b : Option Bool, Builtin.bitOr (Builtin.bitAnd (yI a) (nI b)) (Builtin.bitAnd (nI a) (yI b)) = yI (xor3 a b) ∧ Builtin.bitOr (Builtin.bitAnd (yI a) (yI b)) (Builtin.bitAnd (nI a) (nI b)) = nI (xor3 a b) := by
  intro a b
  rcases a with _ | _ | _ <;> rcases b with _ | _ | _ <;> decide +kernel
def joins : List Str := ["&", "|", "^"]
def spJoined : Sp := fun vs H Q _ => ∃ (s : Str) (p q : Addr) (a b : Option Bool), vs = [.str s, .ref p, .ref q] ∧ s ∈ joins ∧ H p = some (.tup (pairV a)) ∧ H q = some (.tup (pairV b)) ∧ ∀ t G, Same H G → G t = some (.tup (pairV (join3 s a b))) → Q (.ref t) G
abbrev nJoin : List Str := ["sign", "one", "other", "one_yes", "one_no", "other_yes", "other_no", "differ", "agree"]
theorem scJoined : FnScope nJoin ["sign", "one", "other"] (defScope sJoined) := ⟨rfl, rfl, rfl, by decide +kernel, rfl, by decide +kernel, by decide +kernel⟩
theorem ok_joined {dS f : Addr} {fd : FuncData} (F : FnP K "_joined" sJoined f fd) (T : TxtTm K mg w dS) : FnOk P w K mg base CX0 1 f fd ["sign", "one", "other"] spJoined := by
  obtain ⟨ta, ha⟩ := T.and
  obtain ⟨to, ho⟩ := T.or
  refine F.ok scJoined (fun vs H Q E h => ?_) (fun cdv A outer s H vs Q E hr h => ?_)
  · obtain ⟨s, p, q, a, b, rfl, _⟩ := h
    rfl
  · obtain ⟨s, p, q, a, b, rfl, hs, hp, hq, k⟩ := h
    have nd := scJoined.nd
    refine ⟨_, PSs.nox (pss_cons (ps_asg (pv 1) (pg_tup (by rfl) (pgs_cons (pg_name (i := 3) nd rfl (Or.inl rfl)) (pgs_cons (pg_name (i := 4) nd rfl (Or.inl rfl)) pgs_nil))))
      (pss_cons (ps_asg (pv 2) (pg_tup (by rfl) (pgs_cons (pg_name (i := 5) nd rfl (Or.inl rfl)) (pgs_cons (pg_name (i := 6) nd rfl (Or.inl rfl)) pgs_nil))))
      (pss_cons (ps_if (pt_cmpR op_eq (pv 0) (pe_glob (v := .str "&") rfl ha ⟨_, rfl⟩) (nomark _)) (pss_one (ps_ret (pe_tup (pa_cons (pe_op op_and (pv 3) (pv 5)) (pa_cons (pe_op op_or (pv 4) (pv 6)) pa_nil))))) pss_nil)
      (pss_cons (ps_if (pt_cmpR op_eq (pv 0) (pe_glob (v := .str "|") rfl ho ⟨_, rfl⟩) (nomark _)) (pss_one (ps_ret (pe_tup (pa_cons (pe_op op_or (pv 3) (pv 5)) (pa_cons (pe_op op_and (pv 4) (pv 6)) pa_nil))))) pss_nil)
      (pss_cons (ps_set (i := 7) nd rfl (Or.inl rfl) (pe_op op_or (pe_op op_and (pv 3) (pv 6)) (pe_op op_and (pv 4) (pv 5))))
      (pss_cons (ps_set (i := 8) nd rfl (Or.inl rfl) (pe_op op_or (pe_op op_and (pv 3) (pv 5)) (pe_op op_and (pv 4) (pv 6))))
      (pss_one (ps_ret (pe_tup (pa_cons (pv 7) (pa_cons (pv 8) pa_nil))))))))))), ?_⟩
    refine ⟨_, rfl, p, _, rfl, SqT.of hp, rfl, _, _, rfl, _, _, rfl, rfl, _, rfl, q, _, rfl, SqT.of hq, rfl, _, _, rfl, _, _, rfl, rfl, ?_⟩
    have done : ∀ (y n : Int) (t : Addr), y = yI (join3 s a b) → n = nI (join3 s a b) → H t = none → Q (.ref t) (upd H t (.tup [.int y, .int n])) := fun y n t e1 e2 nt => by
      subst e1 e2
      exact k t _ (Lw.Same.new (Same.refl H) nt) upd_same
    refine ⟨_, rfl, rfl, _, rfl, strI (fun e => ?_) (fun e => ?_)⟩
    · have ej : join3 s a b = and3 a b := by unfold join3; rw [if_pos e]
      exact ⟨_, rfl, _, rfl, _, _, rfl, rfl, _, rfl, _, rfl, _, _, rfl, rfl, (by show 2 ≤ sizeLine; decide), fun t nt => done _ _ t (by rw [ej]; exact (bits_and a b).1) (by rw [ej]; exact (bits_and a b).2) nt⟩
    · refine ⟨_, rfl, rfl, _, rfl, strI (fun e2 => ?_) (fun e2 => ?_)⟩
      · have ej : join3 s a b = or3 a b := by unfold join3; rw [if_neg e, if_pos e2]
        exact ⟨_, rfl, _, rfl, _, _, rfl, rfl, _, rfl, _, rfl, _, _, rfl, rfl, (by show 2 ≤ sizeLine; decide), fun t nt => done _ _ t (by rw [ej]; exact (bits_or a b).1) (by rw [ej]; exact (bits_or a b).2) nt⟩
      · have ej : join3 s a b = xor3 a b := by unfold join3; rw [if_neg e, if_neg e2]
        refine ⟨_, rfl, _, rfl, _, _, rfl, rfl, _, rfl, _, rfl, _, _, rfl, rfl, _, _, rfl, rfl, ?_⟩
        refine ⟨_, rfl, _, rfl, _, _, rfl, rfl, _, rfl, _, rfl, _, _, rfl, rfl, _, _, rfl, rfl, ?_⟩
        exact ⟨_, rfl, _, rfl, (by show 2 ≤ sizeLine; decide), fun t nt => done _ _ t (by rw [ej]; exact (bits_xor a b).1) (by rw [ej]; exact (bits_xor a b).2) nt⟩
/-- _tested, of one cell -/
def spTested : Sp := fun vs H Q _ => ∃ (s : Str) (m : V) (l e : Addr) (c : Option Int) (t : Option Bool), vs = [.str s, m, .ref l] ∧ H l = some (.lst [.ref e]) ∧ H e = some (.tup [cV c, .int 1]) ∧
  ((∃ i, m = .int i ∧ s ∈ signs ∧ t = cellT s i c) ∨ (s = "empty" ∧ t = some (decide (c = none)))) ∧ ∀ r G, Same H G → G r = some (.tup (pairV t)) → Q (.ref r) G
abbrev nTested : List Str := ["sign", "number", "cells", "yes", "no", "cell", "mask", "truth"]
theorem scTested : FnScope nTested ["sign", "number", "cells"] (defScope sTested) := ⟨rfl, rfl, rfl, by decide +kernel, rfl, by decide +kernel, by decide +kernel⟩
theorem ok_tested {f : Addr} {fd : FuncData} (F : FnP K "_tested" sTested f fd) (cC : Cal P w K mg base CX0 "_cell_truth" 1 ["sign", "number", "cell"] spCellT) : FnOk P w K mg base CX0 2 f fd ["sign", "number", "cells"] spTested := by
  refine F.ok scTested (fun vs H Q E h => ?_) (fun cdv A outer s0 H vs Q E hr h => ?_)
  · obtain ⟨s, m, l, e, c, t, rfl, _⟩ := h
    rfl
  · obtain ⟨s, m, l, e, c, t, rfl, hl, he, ht, k⟩ := h
    have nd := scTested.nd
    refine ⟨_, PSs.nox (pss_cons (ps_set (i := 3) nd rfl (Or.inl rfl) pe_int) (pss_cons (ps_set (i := 4) nd rfl (Or.inl rfl) pe_int)
      (pss_cons (ps_for PassesOwn.never rfl (pi_list (pv 2)) (pg_tup (by rfl) (pgs_cons (pg_name (i := 5) nd rfl (Or.inl rfl)) (pgs_cons (pg_name (i := 6) nd rfl (Or.inl rfl)) pgs_nil)))
        (pss_cons (ps_set (i := 7) nd rfl (Or.inl rfl) (pe_cal cC hr (pa_cons (pv 0) (pa_cons (pv 1) (pa_cons (pv 5) pa_nil)))))
        (pss_one (ps_if (pt_cmpR Tr.op_isNb (pv 7) pe_bl (nomark _)) (pss_one (ps_set (i := 3) nd rfl (Or.inl rfl) (pe_op op_or (pv 3) (pv 6))))
          (pss_one (ps_if (pt_cmpR Tr.op_isNb (pv 7) pe_bl (nomark _)) (pss_one (ps_set (i := 4) nd rfl (Or.inl rfl) (pe_op op_or (pv 4) (pv 6)))) pss_nil))))))
      (pss_one (ps_ret (pe_tup (pa_cons (pv 3) (pa_cons (pv 4) pa_nil)))))))), ?_⟩
    refine ⟨_, rfl, l, rfl, ⟨_, SqL.of hl⟩, ?_⟩
    refine for_list (K := K) (a := l) (xs := [.ref e]) (fun i σ H' => H = H' ∧ ∃ v5 v6 v7 : Option V, σ = [some (.str s), some m, some (.ref l), some (.int (if i = 0 then 0 else yI t)), some (.int (if i = 0 then 0 else nI t)), v5, v6, v7]) ⟨rfl, _, _, _, rfl⟩ ?_ ?_ ?_
    · rintro i σ H' hi ⟨rfl, _⟩
      exact SqL.of hl
    · rintro i x σ H' hi ⟨rfl, v5, v6, v7, rfl⟩
      have i0 : i = 0 := by
        have := (List.getElem?_eq_some_iff.mp hi).1
        simp at this
        exact this
      subst i0
      cases hi
      refine ⟨e, _, rfl, SqT.of he, rfl, _, _, rfl, _, _, rfl, rfl, ?_⟩
      refine sq_set (fun x G => H = G ∧ x = tV t) (fun Q' q => ?_) ?_
      · rcases ht with ⟨i, rfl, hs, rfl⟩ | ⟨rfl, rfl⟩
        · exact ⟨_, rfl, _, rfl, _, rfl, .inl ⟨s, i, c, rfl, hs, q _ _ ⟨rfl, rfl⟩⟩⟩
        · exact ⟨_, rfl, _, rfl, _, rfl, .inr ⟨m, c, rfl, q _ _ ⟨rfl, rfl⟩⟩⟩
      rintro _ _ ⟨rfl, rfl⟩
      rcases t with _ | _ | _
      · exact ⟨_, rfl, none, true, rfl, rfl, _, rfl, _, rfl, none, false, rfl, rfl, _, rfl, rfl, _, _, _, rfl⟩
      · exact ⟨_, rfl, some false, true, rfl, rfl, _, rfl, _, rfl, some false, false, rfl, rfl, _, rfl, _, rfl, _, rfl, _, _, rfl, rfl, rfl, _, _, _, rfl⟩
      · exact ⟨_, rfl, some true, true, rfl, rfl, _, rfl, _, rfl, _, rfl, _, _, rfl, rfl, rfl, _, _, _, rfl⟩
    · rintro σ H' ⟨rfl, v5, v6, v7, rfl⟩
      refine ⟨_, rfl, _, rfl, (by show 2 ≤ sizeLine; decide), fun r nr => k r _ (Lw.Same.new (Same.refl H) nr) upd_same⟩
/-! weigh, of one entry: a stack of truths, the last one first -/
def stp (env : Str → Option Int) : Tm → List (Option Bool) → Option (List (Option Bool))
  | .every, st => some (some true :: st)
  | .nothing, st => some (some false :: st)
  | .not, t :: st => some (not3 t :: st)
  | .and, b :: a :: st => some (and3 a b :: st)
  | .or, b :: a :: st => some (or3 a b :: st)
  | .xor, b :: a :: st => some (xor3 a b :: st)
  | .cmp y z i, st => some (cellT y i (env z) :: st)
  | .emp z, st => some (some (decide (env z = none)) :: st)
  | _, _ => none
def evs (env : Str → Option Int) : List Tm → List (Option Bool) → Option (List (Option Bool))
  | [], st => some st
  | m :: r, st => (stp env m st).bind (evs env r)
def Tm.name : Tm → Option Str
  | .cmp _ z _ => some z
  | .emp z => some z
  | _ => none
def Tm.ok : Tm → Prop
  | .cmp y _ _ => y ∈ signs
  | _ => True
abbrev IsPair (H : Hp) (t : Option Bool) (v : V) : Prop := ∃ p, v = .ref p ∧ H p = some (.tup (pairV t))
abbrev IsTm (H : Hp) (m : Tm) (v : V) : Prop := ∃ e, v = .ref e ∧ H e = some (.tup m.vs) ∧ m.ok
def St (H : Hp) (st : List (Option Bool)) (vs : List V) : Prop := Paired (IsPair H) st.reverse vs
theorem paired_map {α β : Type} {R S : α → β → Prop} (h : ∀ a b, R a b → S a b) : ∀ {as : List α} {bs : List β}, Paired R as bs → Paired S as bs
  | _, _, .nil => .nil
  | _, _, .cons r t => .cons (h _ _ r) (paired_map h t)
theorem paired_last {α β : Type} {R : α → β → Prop} {a : α} : ∀ {as : List α} {bs : List β}, Paired R (as ++ [a]) bs → ∃ cs b, bs = cs ++ [b] ∧ Paired R as cs ∧ R a b
  | [], _, .cons r .nil => ⟨[], _, rfl, .nil, r⟩
  | x :: as, _, .cons r t => by
    obtain ⟨cs, b, e, p, q⟩ := paired_last (as := as) t
    exact ⟨_ :: cs, b, by rw [e]; rfl, .cons r p, q⟩
theorem St.same {H G : Hp} (s : Same H G) {st : List (Option Bool)} {vs : List V} (h : St H st vs) : St G st vs := paired_map (fun _ _ ⟨p, e, q⟩ => ⟨p, e, s _ _ q⟩) h
theorem St.set {H : Hp} {l : Addr} {xs : List V} {o : HO} (hl : H l = some (.lst xs)) {st : List (Option Bool)} {vs : List V} (h : St H st vs) : St (upd H l o) st vs :=
  paired_map (fun _ _ ⟨p, e, q⟩ => ⟨p, e, by rw [upd_ne (fun z => by subst z; rw [hl] at q; cases q)]; exact q⟩) h
theorem St.push {H : Hp} {t : Option Bool} {u : Addr} {st : List (Option Bool)} {vs : List V} (h : St H st vs) (hu : H u = some (.tup (pairV t))) : St H (t :: st) (vs ++ [.ref u]) := by
  unfold St
  rw [List.reverse_cons]
  exact Paired.snoc h ⟨u, rfl, hu⟩
theorem St.pop {H : Hp} {t : Option Bool} {st : List (Option Bool)} {vs : List V} (h : St H (t :: st) vs) : ∃ ws u, vs = ws ++ [.ref u] ∧ St H st ws ∧ H u = some (.tup (pairV t)) := by
  unfold St at h
  rw [List.reverse_cons] at h
  obtain ⟨ws, v, e, p, u, rfl, hu⟩ := paired_last h
  exact ⟨ws, u, e, p, hu⟩
theorem St.len {H : Hp} {st : List (Option Bool)} {vs : List V} (h : St H st vs) : vs.length = st.length := by
  have := Paired.length h
  rw [List.length_reverse] at this
  exact this.symm
theorem last_app (ws : List V) (v : V) : (ws ++ [v])[(ws ++ [v]).length - 1]? = some v := by simp
theorem paired_get {α β : Type} {R : α → β → Prop} {b : β} : ∀ {as : List α} {bs : List β} {i : Nat}, Paired R as bs → bs[i]? = some b → ∃ a, as[i]? = some a ∧ R a b
  | _, _, 0, .cons r _, e => by cases e; exact ⟨_, rfl, r⟩
  | _, _, i + 1, .cons _ t, e => by
    obtain ⟨a, h1, h2⟩ := paired_get (i := i) t (by simpa using e)
    exact ⟨a, by simpa using h1, h2⟩
  | _, _, i, .nil, e => by simp at e
theorem drop_at {α : Type} {as : List α} {i : Nat} {a : α} (h : as[i]? = some a) : as.drop i = a :: as.drop (i + 1) := by
  obtain ⟨hi, e⟩ := List.getElem?_eq_some_iff.mp h
  rw [List.drop_eq_getElem_cons hi, e]
theorem inJ (y : Str) : inV (.str y) [.str "&", .str "|", .str "^"] = decide (y ∈ (["&", "|", "^"] : List Str)) := inV_str y ["&", "|", "^"]
theorem ite_bf {b : Bool} {A B : Prop} (h : b = false) (x : B) : if b = true then A else B := by
  subst h
  exact x
theorem ite_bt {b : Bool} {A B : Prop} (h : b = true) (x : A) : if b = true then A else B := by
  subst h
  exact x
/-- a grid of one entry -/
def GridOk (H : Hp) (g : Addr) (env : Str → Option Int) (tms : List Tm) : Prop := ∃ kvs, H g = some (.dK kvs) ∧ ∀ m ∈ tms, ∀ z, m.name = some z → ∃ l e, valV kvs (.inr z) = some (.ref l) ∧ H l = some (.lst [.ref e]) ∧ H e = some (.tup [cV (env z), .int 1])
def spWeigh : Sp := fun vs H Q _ => ∃ (T g : Addr) (tms : List Tm) (xs : List V) (env : Str → Option Int) (t : Option Bool) (rest : List (Option Bool)), vs = [.ref T, .ref g, .int 1] ∧ H T = some (.tup xs) ∧ Paired (IsTm H) tms xs ∧ tms.length ≤ 1000 ∧ GridOk H g env tms ∧
  evs env tms [] = some (t :: rest) ∧ ∀ r G, Same H G → G r = some (.tup (pairV t)) → Q (.ref r) G
abbrev nWeigh : List Str := ["terms", "grid", "full", "pairs", "sign", "name", "number", "yes", "no", "other", "one"]
theorem scWeigh : FnScope nWeigh ["terms", "grid", "full"] (defScope sWeigh) := ⟨rfl, rfl, rfl, by decide +kernel, rfl, by decide +kernel, by decide +kernel⟩
theorem ok_weigh {dS f : Addr} {fd : FuncData} (F : FnP K "weigh" sWeigh f fd) (T : TxtTm K mg w dS) (cJ : Cal P w K mg base CX0 "_joined" 1 ["sign", "one", "other"] spJoined) (cT : Cal P w K mg base CX0 "_tested" 2 ["sign", "number", "cells"] spTested) :
    FnOk P w K mg base CX0 3 f fd ["terms", "grid", "full"] spWeigh := by
  obtain ⟨t1, gE⟩ := T.every
  obtain ⟨t2, gN⟩ := T.nothing
  obtain ⟨t3, gNot⟩ := T.not
  obtain ⟨t4, gA⟩ := T.and
  obtain ⟨t5, gO⟩ := T.or
  obtain ⟨t6, gX⟩ := T.xor
  refine F.ok scWeigh (fun vs H Q E h => ?_) (fun cdv A outer s0 H vs Q E hr h => ?_)
  · obtain ⟨T', g, tms, xs, env, t, rest, rfl, _⟩ := h
    rfl
  · obtain ⟨T', g, tms, xs, env, t, rest, rfl, hT, hm, hl, ⟨kvs, hg, grid⟩, hev, k⟩ := h
    have nd := scWeigh.nd
    have hu := hu_of hr
    have h1 : Room 1 _ := hr.mono (by decide)
    refine ⟨_, PSs.nox (pss_cons (ps_set (i := 3) nd rfl (Or.inl rfl) (pe_lst pa_nil))
      (pss_cons (ps_for PassesOwn.never rfl (pi_tup (pv 0)) (pg_tup (by rfl) (pgs_cons (pg_name (i := 4) nd rfl (Or.inl rfl)) (pgs_cons (pg_name (i := 5) nd rfl (Or.inl rfl)) (pgs_cons (pg_name (i := 6) nd rfl (Or.inl rfl)) pgs_nil))))
        (pss_one (ps_if (pt_cmpR op_eq (pv 4) (pe_glob (v := .str "every") rfl gE ⟨_, rfl⟩) (nomark _)) (pss_one (ps_expr (pe_bm PySem.F.plainAttrs_list PySem.F.slot_list_append PySem.F.type_list_append mt_append (pv 3) (pa_cons (pe_tup (pa_cons (pv 2) (pa_cons pe_int pa_nil))) pa_nil))))
        (pss_one (ps_if (pt_cmpR op_eq (pv 4) (pe_glob (v := .str "nothing") rfl gN ⟨_, rfl⟩) (nomark _)) (pss_one (ps_expr (pe_bm PySem.F.plainAttrs_list PySem.F.slot_list_append PySem.F.type_list_append mt_append (pv 3) (pa_cons (pe_tup (pa_cons pe_int (pa_cons (pv 2) pa_nil))) pa_nil))))
        (pss_one (ps_if (pt_cmpR op_eq (pv 4) (pe_glob (v := .str "~") rfl gNot ⟨_, rfl⟩) (nomark _))
          (pss_cons (ps_asg (pe_bm0 PySem.F.plainAttrs_list PySem.F.slot_list_pop PySem.F.type_list_pop mt_pop (pv 3)) (pg_tup (by rfl) (pgs_cons (pg_name (i := 7) nd rfl (Or.inl rfl)) (pgs_cons (pg_name (i := 8) nd rfl (Or.inl rfl)) pgs_nil))))
            (pss_one (ps_expr (pe_bm PySem.F.plainAttrs_list PySem.F.slot_list_append PySem.F.type_list_append mt_append (pv 3) (pa_cons (pe_tup (pa_cons (pv 8) (pa_cons (pv 7) pa_nil))) pa_nil)))))
        (pss_one (ps_if (pt_cmpR op_in_seq (pv 4) (pe_tup (pa_cons (pe_glob (v := .str "&") rfl gA ⟨_, rfl⟩) (pa_cons (pe_glob (v := .str "|") rfl gO ⟨_, rfl⟩) (pa_cons (pe_glob (v := .str "^") rfl gX ⟨_, rfl⟩) pa_nil)))) (by rfl))
          (pss_cons (ps_set (i := 9) nd rfl (Or.inl rfl) (pe_bm0 PySem.F.plainAttrs_list PySem.F.slot_list_pop PySem.F.type_list_pop mt_pop (pv 3))) (pss_cons (ps_set (i := 10) nd rfl (Or.inl rfl) (pe_bm0 PySem.F.plainAttrs_list PySem.F.slot_list_pop PySem.F.type_list_pop mt_pop (pv 3)))
            (pss_one (ps_expr (pe_bm PySem.F.plainAttrs_list PySem.F.slot_list_append PySem.F.type_list_append mt_append (pv 3) (pa_cons (pe_cal cJ h1 (pa_cons (pv 4) (pa_cons (pv 10) (pa_cons (pv 9) pa_nil)))) pa_nil))))))
          (pss_one (ps_expr (pe_bm PySem.F.plainAttrs_list PySem.F.slot_list_append PySem.F.type_list_append mt_append (pv 3) (pa_cons (pe_cal cT hr (pa_cons (pv 4) (pa_cons (pv 6) (pa_cons (pe_dget hu (pv 1) (pv 5) (fun _ _ => rfl)) pa_nil)))) pa_nil)))))))))))))
      (pss_one (ps_ret (pe_bm0 PySem.F.plainAttrs_list PySem.F.slot_list_pop PySem.F.type_list_pop mt_pop (pv 3)))))), ?_⟩
    refine ⟨(by show 0 ≤ sizeLine; decide), fun pl npl => ?_⟩
    have base0 := Lw.Same.new (o := .lst []) (Same.refl H) npl
    refine ⟨_, rfl, T', rfl, ⟨_, SqT.of (base0 _ _ hT)⟩, ?_⟩
    have plne : ∀ {b : Addr} {o : HO}, H b = some o → b ≠ pl := fun h z => by subst z; rw [npl] at h; cases h
    refine for_tup (K := K) (a := T') (xs := xs) (fun i σ G => ∃ (st : List (Option Bool)) (ws : List V) (v4 v5 v6 v7 v8 v9 v10 : Option V), σ = [some (.ref T'), some (.ref g), some (.int 1), some (.ref pl), v4, v5, v6, v7, v8, v9, v10] ∧ evs env (tms.drop i) st = some (t :: rest) ∧ Same H G ∧ G pl = some (.lst ws) ∧ St G st ws ∧ st.length ≤ i)
      ⟨[], [], _, _, _, _, _, _, _, rfl, by simpa using hev, base0, upd_same, .nil, Nat.le_refl _⟩ ?_ ?_ ?_
    · rintro i σ G hi ⟨st, ws, v4, v5, v6, v7, v8, v9, v10, rfl, he, sG, gpl, hst, hln⟩
      exact SqT.of (sG _ _ hT)
    · rintro i x σ G hi ⟨st, ws, v4, v5, v6, v7, v8, v9, v10, rfl, he, sG, gpl, hst, hln⟩
      obtain ⟨m, hmi, e, rfl, hem, okm⟩ := paired_get hm hi
      have mem : m ∈ tms := List.mem_of_getElem? hmi
      have il : i < 1000 := Nat.lt_of_lt_of_le (List.getElem?_eq_some_iff.mp hmi).1 hl
      rw [drop_at hmi] at he
      obtain ⟨st', hs1, hs2⟩ := Option.bind_eq_some_iff.mp (show (stp env m st).bind (evs env (tms.drop (i + 1))) = some (t :: rest) from he)
      have app : ∀ (G1 : Hp) (ws1 : List V) (st1 : List (Option Bool)) (t1 : Option Bool) (u : Addr) (σ' : L2.St), Same H G1 → G1 pl = some (.lst ws1) → St G1 st1 ws1 → G1 u = some (.tup (pairV t1)) → t1 :: st1 = st' → st1.length ≤ i →
          (∃ u4 u5 u6 u7 u8 u9 u10 : Option V, σ' = [some (.ref T'), some (.ref g), some (.int 1), some (.ref pl), u4, u5, u6, u7, u8, u9, u10]) →
          rAppend (.ref pl) [.ref u] G1 (fun _ G2 => ∃ (st : List (Option Bool)) (ws : List V) (v4 v5 v6 v7 v8 v9 v10 : Option V), σ' = [some (.ref T'), some (.ref g), some (.int 1), some (.ref pl), v4, v5, v6, v7, v8, v9, v10] ∧ evs env (tms.drop (i + 1)) st = some (t :: rest) ∧ Same H G2 ∧ G2 pl = some (.lst ws) ∧ St G2 st ws ∧ st.length ≤ i + 1) := by
        rintro G1 ws1 st1 t1 u σ' s1 hp h1 hu1 rfl l1 ⟨u4, u5, u6, u7, u8, u9, u10, rfl⟩
        refine ⟨pl, ws1, .ref u, rfl, rfl, hp, ?_, t1 :: st1, ws1 ++ [.ref u], u4, u5, u6, u7, u8, u9, u10, rfl, hs2, fun b o h => ?_, upd_same, (h1.push hu1).set hp, by simpa using l1⟩
        · rw [h1.len]; exact Nat.lt_of_le_of_lt l1 (Nat.lt_of_lt_of_le il (by decide))
        · rw [upd_ne (plne h)]; exact s1 b o h
      have popd : ∀ {G1 : Hp} {o : HO}, Same H G1 → Same H (upd G1 pl o) := fun {G1 o} s b u h => by rw [upd_ne (plne h)]; exact s b u h
      cases m with
      | every =>
        cases hs1
        refine ⟨e, _, rfl, SqT.of (sG _ _ hem), rfl, _, _, rfl, _, _, rfl, _, _, rfl, rfl, ?_⟩
        refine ⟨_, rfl, rfl, _, rfl, strI (fun _ => ?_) (fun n => absurd rfl n)⟩
        refine ⟨_, rfl, .inl ⟨rfl, _, SqL.of gpl⟩, _, rfl, (by show 2 ≤ sizeLine; decide), fun u nu => ?_⟩
        have su := Lw.Same.new (o := .tup [.int 1, .int 0]) (Same.refl G) nu
        exact app _ ws st (some true) u _ (sG.trans su) (su _ _ gpl) (hst.same su) upd_same rfl hln ⟨_, _, _, _, _, _, _, rfl⟩
      | nothing =>
        cases hs1
        refine ⟨e, _, rfl, SqT.of (sG _ _ hem), rfl, _, _, rfl, _, _, rfl, _, _, rfl, rfl, ?_⟩
        refine ⟨_, rfl, rfl, _, rfl, strI (fun z => absurd z (by decide +kernel)) (fun _ => ?_)⟩
        refine ⟨_, rfl, rfl, _, rfl, strI (fun _ => ?_) (fun n => absurd rfl n)⟩
        refine ⟨_, rfl, .inl ⟨rfl, _, SqL.of gpl⟩, _, rfl, (by show 2 ≤ sizeLine; decide), fun u nu => ?_⟩
        have su := Lw.Same.new (o := .tup [.int 0, .int 1]) (Same.refl G) nu
        exact app _ ws st (some false) u _ (sG.trans su) (su _ _ gpl) (hst.same su) upd_same rfl hln ⟨_, _, _, _, _, _, _, rfl⟩
      | not =>
        cases st with
        | nil => cases hs1
        | cons t0 st0 =>
          cases hs1
          obtain ⟨ws0, u0, rfl, h0, hu0⟩ := hst.pop
          refine ⟨e, _, rfl, SqT.of (sG _ _ hem), rfl, _, _, rfl, _, _, rfl, _, _, rfl, rfl, ?_⟩
          refine ⟨_, rfl, rfl, _, rfl, strI (fun z => absurd z (by decide +kernel)) (fun _ => ?_)⟩
          refine ⟨_, rfl, rfl, _, rfl, strI (fun z => absurd z (by decide +kernel)) (fun _ => ?_)⟩
          refine ⟨_, rfl, rfl, _, rfl, strI (fun _ => ?_) (fun n => absurd rfl n)⟩
          refine ⟨_, rfl, .inl ⟨rfl, _, SqL.of gpl⟩, pl, _, .ref u0, rfl, rfl, gpl, last_app _ _, ?_⟩
          rw [List.dropLast_concat]
          have g1 : (upd G pl (.lst ws0)) u0 = some (.tup (pairV t0)) := by rw [upd_ne (fun z => by subst z; rw [gpl] at hu0; cases hu0)]; exact hu0
          have h1' := h0.set (o := .lst ws0) gpl
          refine ⟨u0, _, rfl, SqT.of g1, rfl, _, _, rfl, _, _, rfl, rfl, ?_⟩
          refine ⟨_, rfl, .inl ⟨rfl, _, SqL.of upd_same⟩, _, rfl, _, rfl, (by show 2 ≤ sizeLine; decide), fun u nu => ?_⟩
          have su := Lw.Same.new (o := .tup [.int (nI t0), .int (yI t0)]) (Same.refl (upd G pl (.lst ws0))) nu
          have eq : pairV (not3 t0) = [.int (nI t0), .int (yI t0)] := by rcases t0 with _ | _ | _ <;> rfl
          exact app _ ws0 st0 (not3 t0) u _ ((popd sG).trans su) (su _ _ upd_same) (h1'.same su) (by rw [eq]; exact upd_same) rfl (Nat.le_of_succ_le hln) ⟨_, _, _, _, _, _, _, rfl⟩
      | and =>
        match st, hst, hln, hs1 with
        | [], _, _, hs1 => cases hs1
        | [_], _, _, hs1 => cases hs1
        | b0 :: a0 :: st0, hst, hln, hs1 =>
          cases hs1
          obtain ⟨ws1, u1, rfl, h1, hu1⟩ := hst.pop
          obtain ⟨ws0, u0, rfl, h0, hu0⟩ := h1.pop
          refine ⟨e, _, rfl, SqT.of (sG _ _ hem), rfl, _, _, rfl, _, _, rfl, _, _, rfl, rfl, ?_⟩
          refine ⟨_, rfl, rfl, _, rfl, strI (fun z => absurd z (by decide +kernel)) (fun _ => ?_)⟩
          refine ⟨_, rfl, rfl, _, rfl, strI (fun z => absurd z (by decide +kernel)) (fun _ => ?_)⟩
          refine ⟨_, rfl, rfl, _, rfl, strI (fun z => absurd z (by decide +kernel)) (fun _ => ?_)⟩
          refine ⟨_, rfl, (by show 3 ≤ sizeLine; decide), fun u nu => ⟨u, _, rfl, .inr (SqT.of upd_same), rfl, rfl, _, rfl, ite_bt (by decide +kernel) ?_⟩⟩
          have su := Lw.Same.new (o := .tup [.str "&", .str "|", .str "^"]) (Same.refl G) nu
          have sH := sG.trans su
          have gp := su _ _ gpl
          generalize upd G u (.tup [.str "&", .str "|", .str "^"]) = G0 at su sH gp
          have hu1' := su _ _ hu1
          have hu0' := su _ _ hu0
          have h0' := h0.same su
          have n1 : u1 ≠ pl := fun z => by subst z; rw [gp] at hu1'; cases hu1'
          have n0 : u0 ≠ pl := fun z => by subst z; rw [gp] at hu0'; cases hu0'
          refine ⟨_, rfl, .inl ⟨rfl, _, SqL.of gp⟩, pl, _, .ref u1, rfl, rfl, gp, last_app _ _, ?_⟩
          rw [List.dropLast_concat]
          refine ⟨_, rfl, .inl ⟨rfl, _, SqL.of upd_same⟩, pl, _, .ref u0, rfl, rfl, upd_same, last_app _ _, ?_⟩
          rw [List.dropLast_concat]
          have k1 : (upd (upd G0 pl (.lst (ws0 ++ [.ref u0]))) pl (.lst ws0)) u1 = some (.tup (pairV b0)) := by rw [upd_ne n1, upd_ne n1]; exact hu1'
          have k0 : (upd (upd G0 pl (.lst (ws0 ++ [.ref u0]))) pl (.lst ws0)) u0 = some (.tup (pairV a0)) := by rw [upd_ne n0, upd_ne n0]; exact hu0'
          have k2 : St (upd (upd G0 pl (.lst (ws0 ++ [.ref u0]))) pl (.lst ws0)) st0 ws0 := (h0'.set gp).set upd_same
          refine ⟨_, rfl, .inl ⟨rfl, _, SqL.of upd_same⟩, _, rfl, _, rfl, _, rfl, "&", u0, u1, a0, b0, rfl, by decide +kernel, k0, k1, fun r G2 s2 hr2 => ?_⟩
          exact app G2 ws0 st0 _ r _ ((popd (popd sH)).trans s2) (s2 _ _ upd_same) (k2.same s2) hr2 rfl (Nat.le_of_succ_le (Nat.le_of_succ_le hln)) ⟨_, _, _, _, _, _, _, rfl⟩
      | or =>
        match st, hst, hln, hs1 with
        | [], _, _, hs1 => cases hs1
        | [_], _, _, hs1 => cases hs1
        | b0 :: a0 :: st0, hst, hln, hs1 =>
          cases hs1
          obtain ⟨ws1, u1, rfl, h1, hu1⟩ := hst.pop
          obtain ⟨ws0, u0, rfl, h0, hu0⟩ := h1.pop
          refine ⟨e, _, rfl, SqT.of (sG _ _ hem), rfl, _, _, rfl, _, _, rfl, _, _, rfl, rfl, ?_⟩
          refine ⟨_, rfl, rfl, _, rfl, strI (fun z => absurd z (by decide +kernel)) (fun _ => ?_)⟩
          refine ⟨_, rfl, rfl, _, rfl, strI (fun z => absurd z (by decide +kernel)) (fun _ => ?_)⟩
          refine ⟨_, rfl, rfl, _, rfl, strI (fun z => absurd z (by decide +kernel)) (fun _ => ?_)⟩
          refine ⟨_, rfl, (by show 3 ≤ sizeLine; decide), fun u nu => ⟨u, _, rfl, .inr (SqT.of upd_same), rfl, rfl, _, rfl, ite_bt (by decide +kernel) ?_⟩⟩
          have su := Lw.Same.new (o := .tup [.str "&", .str "|", .str "^"]) (Same.refl G) nu
          have sH := sG.trans su
          have gp := su _ _ gpl
          generalize upd G u (.tup [.str "&", .str "|", .str "^"]) = G0 at su sH gp
          have hu1' := su _ _ hu1
          have hu0' := su _ _ hu0
          have h0' := h0.same su
          have n1 : u1 ≠ pl := fun z => by subst z; rw [gp] at hu1'; cases hu1'
          have n0 : u0 ≠ pl := fun z => by subst z; rw [gp] at hu0'; cases hu0'
          refine ⟨_, rfl, .inl ⟨rfl, _, SqL.of gp⟩, pl, _, .ref u1, rfl, rfl, gp, last_app _ _, ?_⟩
          rw [List.dropLast_concat]
          refine ⟨_, rfl, .inl ⟨rfl, _, SqL.of upd_same⟩, pl, _, .ref u0, rfl, rfl, upd_same, last_app _ _, ?_⟩
          rw [List.dropLast_concat]
          have k1 : (upd (upd G0 pl (.lst (ws0 ++ [.ref u0]))) pl (.lst ws0)) u1 = some (.tup (pairV b0)) := by rw [upd_ne n1, upd_ne n1]; exact hu1'
          have k0 : (upd (upd G0 pl (.lst (ws0 ++ [.ref u0]))) pl (.lst ws0)) u0 = some (.tup (pairV a0)) := by rw [upd_ne n0, upd_ne n0]; exact hu0'
          have k2 : St (upd (upd G0 pl (.lst (ws0 ++ [.ref u0]))) pl (.lst ws0)) st0 ws0 := (h0'.set gp).set upd_same
          refine ⟨_, rfl, .inl ⟨rfl, _, SqL.of upd_same⟩, _, rfl, _, rfl, _, rfl, "|", u0, u1, a0, b0, rfl, by decide +kernel, k0, k1, fun r G2 s2 hr2 => ?_⟩
          exact app G2 ws0 st0 _ r _ ((popd (popd sH)).trans s2) (s2 _ _ upd_same) (k2.same s2) hr2 rfl (Nat.le_of_succ_le (Nat.le_of_succ_le hln)) ⟨_, _, _, _, _, _, _, rfl⟩
      | xor =>
        match st, hst, hln, hs1 with
        | [], _, _, hs1 => cases hs1
        | [_], _, _, hs1 => cases hs1
        | b0 :: a0 :: st0, hst, hln, hs1 =>
          cases hs1
          obtain ⟨ws1, u1, rfl, h1, hu1⟩ := hst.pop
          obtain ⟨ws0, u0, rfl, h0, hu0⟩ := h1.pop
          refine ⟨e, _, rfl, SqT.of (sG _ _ hem), rfl, _, _, rfl, _, _, rfl, _, _, rfl, rfl, ?_⟩
          refine ⟨_, rfl, rfl, _, rfl, strI (fun z => absurd z (by decide +kernel)) (fun _ => ?_)⟩
          refine ⟨_, rfl, rfl, _, rfl, strI (fun z => absurd z (by decide +kernel)) (fun _ => ?_)⟩
          refine ⟨_, rfl, rfl, _, rfl, strI (fun z => absurd z (by decide +kernel)) (fun _ => ?_)⟩
          refine ⟨_, rfl, (by show 3 ≤ sizeLine; decide), fun u nu => ⟨u, _, rfl, .inr (SqT.of upd_same), rfl, rfl, _, rfl, ite_bt (by decide +kernel) ?_⟩⟩
          have su := Lw.Same.new (o := .tup [.str "&", .str "|", .str "^"]) (Same.refl G) nu
          have sH := sG.trans su
          have gp := su _ _ gpl
          generalize upd G u (.tup [.str "&", .str "|", .str "^"]) = G0 at su sH gp
          have hu1' := su _ _ hu1
          have hu0' := su _ _ hu0
          have h0' := h0.same su
          have n1 : u1 ≠ pl := fun z => by subst z; rw [gp] at hu1'; cases hu1'
          have n0 : u0 ≠ pl := fun z => by subst z; rw [gp] at hu0'; cases hu0'
          refine ⟨_, rfl, .inl ⟨rfl, _, SqL.of gp⟩, pl, _, .ref u1, rfl, rfl, gp, last_app _ _, ?_⟩
          rw [List.dropLast_concat]
          refine ⟨_, rfl, .inl ⟨rfl, _, SqL.of upd_same⟩, pl, _, .ref u0, rfl, rfl, upd_same, last_app _ _, ?_⟩
          rw [List.dropLast_concat]
          have k1 : (upd (upd G0 pl (.lst (ws0 ++ [.ref u0]))) pl (.lst ws0)) u1 = some (.tup (pairV b0)) := by rw [upd_ne n1, upd_ne n1]; exact hu1'
          have k0 : (upd (upd G0 pl (.lst (ws0 ++ [.ref u0]))) pl (.lst ws0)) u0 = some (.tup (pairV a0)) := by rw [upd_ne n0, upd_ne n0]; exact hu0'
          have k2 : St (upd (upd G0 pl (.lst (ws0 ++ [.ref u0]))) pl (.lst ws0)) st0 ws0 := (h0'.set gp).set upd_same
          refine ⟨_, rfl, .inl ⟨rfl, _, SqL.of upd_same⟩, _, rfl, _, rfl, _, rfl, "^", u0, u1, a0, b0, rfl, by decide +kernel, k0, k1, fun r G2 s2 hr2 => ?_⟩
          exact app G2 ws0 st0 _ r _ ((popd (popd sH)).trans s2) (s2 _ _ upd_same) (k2.same s2) hr2 rfl (Nat.le_of_succ_le (Nat.le_of_succ_le hln)) ⟨_, _, _, _, _, _, _, rfl⟩
      | cmp y z n =>
        cases hs1
        obtain ⟨n1, n2, n3, n4, n5, n6, n7⟩ := signs_not okm
        obtain ⟨l, c, hv, hl2, hc⟩ := grid _ mem z rfl
        refine ⟨e, _, rfl, SqT.of (sG _ _ hem), rfl, _, _, rfl, _, _, rfl, _, _, rfl, rfl, ?_⟩
        refine ⟨_, rfl, rfl, _, rfl, strI (fun z => absurd z n2) (fun _ => ?_)⟩
        refine ⟨_, rfl, rfl, _, rfl, strI (fun z => absurd z n3) (fun _ => ?_)⟩
        refine ⟨_, rfl, rfl, _, rfl, strI (fun z => absurd z n4) (fun _ => ?_)⟩
        refine ⟨_, rfl, (by show 3 ≤ sizeLine; decide), fun u nu => ⟨u, _, rfl, .inr (SqT.of upd_same), rfl, rfl, _, rfl, ite_bf ?_ ?_⟩⟩
        · show inV (.str y) [.str "&", .str "|", .str "^"] = false
          rw [inJ]
          exact decide_eq_false (by simp [n5, n6, n7])
        have su := Lw.Same.new (o := .tup [.str "&", .str "|", .str "^"]) (Same.refl G) nu
        have sH := sG.trans su
        refine ⟨_, rfl, .inl ⟨rfl, _, SqL.of (su _ _ gpl)⟩, _, rfl, _, rfl, _, rfl, _, rfl, g, .ref l, rfl, hv ▸ DGet.k (k := .inr z) (sH _ _ hg), ?_⟩
        refine ⟨y, .int n, l, c, env z, cellT y n (env z), rfl, sH _ _ hl2, sH _ _ hc, .inl ⟨n, rfl, okm, rfl⟩, fun r G2 s2 hr2 => ?_⟩
        exact app G2 ws st _ r _ (sH.trans s2) (s2 _ _ (su _ _ gpl)) ((hst.same su).same s2) hr2 rfl hln ⟨_, _, _, _, _, _, _, rfl⟩
      | emp z =>
        cases hs1
        obtain ⟨l, c, hv, hl2, hc⟩ := grid _ mem z rfl
        refine ⟨e, _, rfl, SqT.of (sG _ _ hem), rfl, _, _, rfl, _, _, rfl, _, _, rfl, rfl, ?_⟩
        refine ⟨_, rfl, rfl, _, rfl, strI (fun z => absurd z (by decide +kernel)) (fun _ => ?_)⟩
        refine ⟨_, rfl, rfl, _, rfl, strI (fun z => absurd z (by decide +kernel)) (fun _ => ?_)⟩
        refine ⟨_, rfl, rfl, _, rfl, strI (fun z => absurd z (by decide +kernel)) (fun _ => ?_)⟩
        refine ⟨_, rfl, (by show 3 ≤ sizeLine; decide), fun u nu => ⟨u, _, rfl, .inr (SqT.of upd_same), rfl, rfl, _, rfl, ite_bf (by decide +kernel) ?_⟩⟩
        have su := Lw.Same.new (o := .tup [.str "&", .str "|", .str "^"]) (Same.refl G) nu
        have sH := sG.trans su
        refine ⟨_, rfl, .inl ⟨rfl, _, SqL.of (su _ _ gpl)⟩, _, rfl, _, rfl, _, rfl, _, rfl, g, .ref l, rfl, hv ▸ DGet.k (k := .inr z) (sH _ _ hg), ?_⟩
        refine ⟨"empty", .non, l, c, env z, some (decide (env z = none)), rfl, sH _ _ hl2, sH _ _ hc, .inr ⟨rfl, rfl⟩, fun r G2 s2 hr2 => ?_⟩
        exact app G2 ws st _ r _ (sH.trans s2) (s2 _ _ (su _ _ gpl)) ((hst.same su).same s2) hr2 rfl hln ⟨_, _, _, _, _, _, _, rfl⟩
    · rintro σ G ⟨st, ws, v4, v5, v6, v7, v8, v9, v10, rfl, he, sG, gpl, hst, hln⟩
      have hx : xs.length = tms.length := (Paired.length hm).symm
      rw [hx, List.drop_length] at he
      cases he
      obtain ⟨ws0, u0, rfl, h0, hu0⟩ := hst.pop
      refine ⟨_, rfl, .inl ⟨rfl, _, SqL.of gpl⟩, pl, _, .ref u0, rfl, rfl, gpl, last_app _ _, ?_⟩
      refine k u0 _ (fun b o h => ?_) ?_
      · rw [upd_ne (plne h)]; exact sG b o h
      · rw [upd_ne (fun z => by subst z; rw [gpl] at hu0; cases hu0)]; exact hu0
/-! filters as objects -/
structure TxtF (K : PySem.W.Frag) (mg : Str → Option Value) (CF : Addr) : Prop where
  cl : Cls K CF
  nT : NoAttr K CF "_terms"
  gF : mg "Filter" = some (.ref CF)
  tuple : mg "tuple" = none
/-- a filter with these terms -/
def Fi (CF : Addr) (H : Hp) (p : Addr) (tms : List Tm) : Prop := ∃ (dx t : Addr) (xs : List V), H p = some (.ins CF dx [("_terms", .ref t)]) ∧ H t = some (.tup xs) ∧ Paired (IsTm H) tms xs
theorem tms_same {H G : Hp} (s : Same H G) {tms : List Tm} {xs : List V} (h : Paired (IsTm H) tms xs) : Paired (IsTm G) tms xs := paired_map (fun _ _ ⟨e, h1, h2, h3⟩ => ⟨e, h1, s _ _ h2, h3⟩) h
theorem Fi.same {CF : Addr} {H G : Hp} {p : Addr} {tms : List Tm} (s : Same H G) (h : Fi CF H p tms) : Fi CF G p tms := by
  obtain ⟨dx, t, xs, h1, h2, h3⟩ := h
  exact ⟨dx, t, xs, s _ _ h1, s _ _ h2, tms_same s h3⟩
theorem tms_snoc {H : Hp} {tms : List Tm} {m : Tm} {xs : List V} {e : Addr} (h : Paired (IsTm H) tms xs) (he : H e = some (.tup m.vs)) (ok : m.ok) : Paired (IsTm H) (tms ++ [m]) (xs ++ [.ref e]) := Paired.snoc h ⟨e, rfl, he, ok⟩
theorem paired_app {α β : Type} {R : α → β → Prop} : ∀ {as cs : List α} {bs ds : List β}, Paired R as bs → Paired R cs ds → Paired R (as ++ cs) (bs ++ ds)
  | _, _, _, _, .nil, h => h
  | _, _, _, _, .cons r t, h => .cons r (paired_app t h)
def spFI (K : PySem.W.Frag) (CF : Addr) : Sp := fun vs H Q _ => ∃ (p dx l : Addr) (xs : List V), vs = [.ref p, .ref l] ∧ H p = some (.ins CF dx []) ∧ SqL K H l xs ∧ ∀ t, H t = none → Q .non (upd (upd H t (.tup xs)) p (.ins CF dx (putF "_terms" (.ref t) [])))
theorem scFI : FnScope ["self", "terms"] ["self", "terms"] (defScope sFI) := ⟨rfl, rfl, rfl, by decide +kernel, rfl, by decide +kernel, by decide +kernel⟩
theorem ok_fi {CF f : Addr} {fd : FuncData} (F : MethD K "__init__" "Filter.__init__" sFI f fd) (T : TxtF K mg CF) : FnOk P w K mg base CX0 1 f fd ["self", "terms"] (spFI K CF) := by
  refine F.ok scFI (fun vs H Q E h => ?_) (fun cdv A outer s H vs Q E hr h => ?_)
  · obtain ⟨p, dx, l, xs, rfl, _⟩ := h
    rfl
  · obtain ⟨p, dx, l, xs, rfl, hp, hl, k⟩ := h
    refine ⟨_, PSs.nox (pss_one (ps_fld (pv 0) (pe_callTy call_tuple_of (by rfl) T.tuple (by decide +kernel) (pa_cons (pv 1) pa_nil)) rfl)), ?_⟩
    exact ⟨_, rfl, l, _, rfl, .inl ⟨hl, fun t ht => ⟨_, rfl, p, CF, dx, _, rfl, (by rw [upd_ne (ne_of_none hp ht)]; exact hp), T.cl, T.nT, (by show 0 < 1000; decide), k t ht⟩⟩⟩
structure MakF (P : Program) (w : World) (K : PySem.W.Frag) (mg : Str → Option Value) (base : Heap) (CF : Addr) : Prop where
  T : TxtF K mg CF
  ex : ∃ f fd, Mk K CF f ∧ FnOk P w K mg base CX0 1 f fd ["self", "terms"] (spFI K CF) ∧ Binds K fd ["self", "terms"] []
theorem pe_filter {X : Cx} {CF : Addr} {p pos : Pos} {e : Expr} {t : TA} (B : MakF X.prog X.w X.K X.mg X.base CF) (hr : Room 2 X.A) (ha : PA X [e] t) (hg : Gl X "Filter" := by rfl)
    (he : starEach [e] X.env = (false, eval e X.env) :: starEach [] X.env := by rfl) (hpl : (backTo pos (starEach [] X.env)).any (·.1) = false := by rfl) :
    PE X (.Call (.Name "Filter" p) [e] [] pos) (tMake CF (spFI X.K CF) [] E0 t) := by
  obtain ⟨f, fd, M, F, b⟩ := B.ex
  exact pe_make M F hr hg B.T.gF b .nil pass0 ha (by decide) he hpl
/-- Filter(l), l a list of terms -/
theorem filter_new {CF l : Addr} {tms : List Tm} {xs : List V} {H : Hp} {R : Addr → Hp → Prop} {E : XK} (hl : H l = some (.lst xs)) (hm : Paired (IsTm H) tms xs) (k : ∀ p G, H p = none → Same H G → Fi CF G p tms → R p G) :
    ∀ x dx, H x = none → H dx = none → dx ≠ x → spFI K CF [.ref x, .ref l] (upd (upd H dx (.own x)) x (.ins CF dx [])) (fun v H2 => v = .non ∧ R x H2) E := fun x dx nx nd ne => by
  refine ⟨x, dx, l, xs, rfl, upd_same, SqL.of (by rw [upd_ne (ne_of_none hl nx), upd_ne (ne_of_none hl nd)]; exact hl), fun t ht => ⟨rfl, ?_⟩⟩
  have tx : t ≠ x := fun z => by subst z; rw [upd_same] at ht; cases ht
  have s : Same H (upd (upd (upd (upd H dx (.own x)) x (.ins CF dx [])) t (.tup xs)) x (.ins CF dx (putF "_terms" (.ref t) []))) := fun b o h => by
    have nbx := ne_of_none h nx
    have h2 : (upd (upd H dx (.own x)) x (.ins CF dx [])) b = some o := by rw [upd_ne nbx, upd_ne (ne_of_none h nd)]; exact h
    rw [upd_ne nbx, upd_ne (ne_of_none h2 ht)]
    exact h2
  exact k x _ nx s ⟨dx, t, xs, upd_same, by rw [upd_ne tx, upd_same], tms_same s hm⟩
/-- a filter made of one or two others -/
def spUn (CF : Addr) (m : Tm) : Sp := fun vs H Q _ => ∃ (p : Addr) (a : List Tm), vs = [.ref p] ∧ Fi CF H p a ∧ a.length ≤ 1000 ∧ ∀ q G, H q = none → Same H G → Fi CF G q (a ++ [m]) → Q (.ref q) G
def spBin (CF : Addr) (m : Tm) : Sp := fun vs H Q _ => ∃ (p r : Addr) (a b : List Tm), vs = [.ref p, .ref r] ∧ Fi CF H p a ∧ Fi CF H r b ∧ a.length + b.length ≤ 1000 ∧ ∀ q G, H q = none → Same H G → Fi CF G q (a ++ b ++ [m]) → Q (.ref q) G
theorem none_back {H G : Hp} (s : Same H G) {q : Addr} (h : G q = none) : H q = none := by
  cases e : H q with
  | none => rfl
  | some o => rw [s _ _ e] at h; cases h
theorem scInv : FnScope ["self"] ["self"] (defScope sInv) := ⟨rfl, rfl, rfl, by decide +kernel, rfl, by decide +kernel, by decide +kernel⟩
theorem ok_inv {dS CF f : Addr} {fd : FuncData} (F : MethD K "__invert__" "Filter.__invert__" sInv f fd) (T : TxtTm K mg w dS) (M : MakF P w K mg base CF) : FnOk P w K mg base CX0 3 f fd ["self"] (spUn CF .not) := by
  obtain ⟨tk, gNot⟩ := T.not
  refine F.ok scInv (fun vs H Q E h => ?_) (fun cdv A outer s H vs Q E hr h => ?_)
  · obtain ⟨p, a, rfl, _⟩ := h
    rfl
  · obtain ⟨p, a, rfl, ⟨dx, t, xs, hp, ht, hm⟩, hl, k⟩ := h
    refine ⟨_, PSs.nox (pss_one (ps_ret (pe_filter M hr (pa_cons (pe_lst (StX.pa_star (pe_fld (pv 0) (by rfl)) (pa_cons (pe_tup (pa_cons (pe_glob (v := .str "~") rfl gNot ⟨_, rfl⟩) (pa_cons pe_non (pa_cons pe_non pa_nil)))) pa_nil))) pa_nil)))), ?_⟩
    refine ⟨_, rfl, p, CF, dx, _, .ref t, rfl, hp, M.T.cl, M.T.nT, List.lookup_cons_self, t, xs, rfl, .inl (SqT.of ht), (by show 3 ≤ sizeLine; decide), fun u nu => ⟨?_, fun l nl => ?_⟩⟩
    · rw [List.length_append, ← Paired.length hm]; exact Nat.le_trans (Nat.add_le_add_right hl _) (by show 1001 ≤ sizeLine; decide)
    · have s1 := Lw.Same.new (o := .tup [.str "~", .non, .non]) (Same.refl H) nu
      have s2 := Lw.Same.new (o := .lst (xs ++ [.ref u])) (Same.refl _) nl
      exact filter_new upd_same (tms_snoc (tms_same (s1.trans s2) hm) (m := .not) (s2 _ _ upd_same) trivial) fun q G nq s hq => k q G (none_back (s1.trans s2) nq) ((s1.trans s2).trans s) hq
theorem bin_read {CF : Addr} {s : Str} {m : Tm} {a b : List Tm} {xs ys : List V} {H : Hp} {Q : VK} (hm : m.vs = [.str s, .non, .non]) (ok : m.ok) (h1 : Paired (IsTm H) a xs) (h2 : Paired (IsTm H) b ys)
    (k : ∀ q G, H q = none → Same H G → Fi CF G q (a ++ b ++ [m]) → Q (.ref q) G) {u l : Addr} (nu : H u = none) (nl : (upd H u (.tup [.str s, .non, .non])) l = none) :
    ∀ x dx, (upd (upd H u (.tup [.str s, .non, .non])) l (.lst (xs ++ (ys ++ [.ref u])))) x = none → (upd (upd H u (.tup [.str s, .non, .non])) l (.lst (xs ++ (ys ++ [.ref u])))) dx = none → dx ≠ x →
      spFI K CF [.ref x, .ref l] (upd (upd (upd (upd H u (.tup [.str s, .non, .non])) l (.lst (xs ++ (ys ++ [.ref u])))) dx (.own x)) x (.ins CF dx [])) (fun v H2 => v = .non ∧ Q (.ref x) H2) E0 := by
  have s1 := Lw.Same.new (o := .tup [.str s, .non, .non]) (Same.refl H) nu
  have s2 := Lw.Same.new (o := .lst (xs ++ (ys ++ [.ref u]))) (Same.refl _) nl
  have e : xs ++ (ys ++ [.ref u]) = (xs ++ ys) ++ [.ref u] := (List.append_assoc _ _ _).symm
  refine filter_new (R := fun x G => Q (.ref x) G) upd_same (tms := a ++ b ++ [m]) ?_ fun q G nq s hq => k q G (none_back (s1.trans s2) nq) ((s1.trans s2).trans s) hq
  have h3 := tms_snoc (paired_app (tms_same (s1.trans s2) h1) (tms_same (s1.trans s2) h2)) (m := m) (e := u) (by rw [hm]; exact s2 _ _ upd_same) ok
  exact (congrArg (fun zs => Paired (IsTm _) (a ++ b ++ [m]) zs) e).mpr h3
theorem scAnd : FnScope ["self", "other"] ["self", "other"] (defScope sAnd) := ⟨rfl, rfl, rfl, by decide +kernel, rfl, by decide +kernel, by decide +kernel⟩
theorem ok_and {dS CF f : Addr} {fd : FuncData} (F : MethD K "__and__" "Filter.__and__" sAnd f fd) (T : TxtTm K mg w dS) (M : MakF P w K mg base CF) : FnOk P w K mg base CX0 3 f fd ["self", "other"] (spBin CF .and) := by
  obtain ⟨tk, gS⟩ := T.and
  refine F.ok scAnd (fun vs H Q E h => ?_) (fun cdv A outer s0 H vs Q E hr h => ?_)
  · obtain ⟨p, r, a, b, rfl, _⟩ := h
    rfl
  · obtain ⟨p, r, a, b, rfl, ⟨d1, t1, xs, hp, ht, hm⟩, ⟨d2, t2, ys, hp2, ht2, hm2⟩, hl, k⟩ := h
    refine ⟨_, PSs.nox (pss_one (ps_ret (pe_filter M hr (pa_cons (pe_lst (StX.pa_star (pe_fld (pv 0) (by rfl)) (StX.pa_star (pe_fld (pv 1) (by rfl)) (pa_cons (pe_tup (pa_cons (pe_glob (v := .str "&") rfl gS ⟨_, rfl⟩) (pa_cons pe_non (pa_cons pe_non pa_nil)))) pa_nil)))) pa_nil)))), ?_⟩
    refine ⟨_, rfl, p, CF, d1, _, .ref t1, rfl, hp, M.T.cl, M.T.nT, List.lookup_cons_self, t1, xs, rfl, .inl (SqT.of ht), ?_⟩
    refine ⟨_, rfl, r, CF, d2, _, .ref t2, rfl, hp2, M.T.cl, M.T.nT, List.lookup_cons_self, t2, ys, rfl, .inl (SqT.of ht2), (by show 3 ≤ sizeLine; decide), fun u nu => ⟨?_, fun l nl => ?_⟩⟩
    · rw [List.length_append, List.length_append, ← Paired.length hm, ← Paired.length hm2, List.length_singleton]
      have big : 1001 ≤ sizeLine := by decide
      omega
    · exact bin_read (m := .and) rfl trivial hm hm2 k nu nl
theorem scOr : FnScope ["self", "other"] ["self", "other"] (defScope sOr) := ⟨rfl, rfl, rfl, by decide +kernel, rfl, by decide +kernel, by decide +kernel⟩
theorem ok_or {dS CF f : Addr} {fd : FuncData} (F : MethD K "__or__" "Filter.__or__" sOr f fd) (T : TxtTm K mg w dS) (M : MakF P w K mg base CF) : FnOk P w K mg base CX0 3 f fd ["self", "other"] (spBin CF .or) := by
  obtain ⟨tk, gS⟩ := T.or
  refine F.ok scOr (fun vs H Q E h => ?_) (fun cdv A outer s0 H vs Q E hr h => ?_)
  · obtain ⟨p, r, a, b, rfl, _⟩ := h
    rfl
  · obtain ⟨p, r, a, b, rfl, ⟨d1, t1, xs, hp, ht, hm⟩, ⟨d2, t2, ys, hp2, ht2, hm2⟩, hl, k⟩ := h
    refine ⟨_, PSs.nox (pss_one (ps_ret (pe_filter M hr (pa_cons (pe_lst (StX.pa_star (pe_fld (pv 0) (by rfl)) (StX.pa_star (pe_fld (pv 1) (by rfl)) (pa_cons (pe_tup (pa_cons (pe_glob (v := .str "|") rfl gS ⟨_, rfl⟩) (pa_cons pe_non (pa_cons pe_non pa_nil)))) pa_nil)))) pa_nil)))), ?_⟩
    refine ⟨_, rfl, p, CF, d1, _, .ref t1, rfl, hp, M.T.cl, M.T.nT, List.lookup_cons_self, t1, xs, rfl, .inl (SqT.of ht), ?_⟩
    refine ⟨_, rfl, r, CF, d2, _, .ref t2, rfl, hp2, M.T.cl, M.T.nT, List.lookup_cons_self, t2, ys, rfl, .inl (SqT.of ht2), (by show 3 ≤ sizeLine; decide), fun u nu => ⟨?_, fun l nl => ?_⟩⟩
    · rw [List.length_append, List.length_append, ← Paired.length hm, ← Paired.length hm2, List.length_singleton]
      have big : 1001 ≤ sizeLine := by decide
      omega
    · exact bin_read (m := .or) rfl trivial hm hm2 k nu nl
theorem scXor : FnScope ["self", "other"] ["self", "other"] (defScope sXor) := ⟨rfl, rfl, rfl, by decide +kernel, rfl, by decide +kernel, by decide +kernel⟩
theorem ok_xor {dS CF f : Addr} {fd : FuncData} (F : MethD K "__xor__" "Filter.__xor__" sXor f fd) (T : TxtTm K mg w dS) (M : MakF P w K mg base CF) : FnOk P w K mg base CX0 3 f fd ["self", "other"] (spBin CF .xor) := by
  obtain ⟨tk, gS⟩ := T.xor
  refine F.ok scXor (fun vs H Q E h => ?_) (fun cdv A outer s0 H vs Q E hr h => ?_)
  · obtain ⟨p, r, a, b, rfl, _⟩ := h
    rfl
  · obtain ⟨p, r, a, b, rfl, ⟨d1, t1, xs, hp, ht, hm⟩, ⟨d2, t2, ys, hp2, ht2, hm2⟩, hl, k⟩ := h
    refine ⟨_, PSs.nox (pss_one (ps_ret (pe_filter M hr (pa_cons (pe_lst (StX.pa_star (pe_fld (pv 0) (by rfl)) (StX.pa_star (pe_fld (pv 1) (by rfl)) (pa_cons (pe_tup (pa_cons (pe_glob (v := .str "^") rfl gS ⟨_, rfl⟩) (pa_cons pe_non (pa_cons pe_non pa_nil)))) pa_nil)))) pa_nil)))), ?_⟩
    refine ⟨_, rfl, p, CF, d1, _, .ref t1, rfl, hp, M.T.cl, M.T.nT, List.lookup_cons_self, t1, xs, rfl, .inl (SqT.of ht), ?_⟩
    refine ⟨_, rfl, r, CF, d2, _, .ref t2, rfl, hp2, M.T.cl, M.T.nT, List.lookup_cons_self, t2, ys, rfl, .inl (SqT.of ht2), (by show 3 ≤ sizeLine; decide), fun u nu => ⟨?_, fun l nl => ?_⟩⟩
    · rw [List.length_append, List.length_append, ← Paired.length hm, ← Paired.length hm2, List.length_singleton]
      have big : 1001 ≤ sizeLine := by decide
      omega
    · exact bin_read (m := .xor) rfl trivial hm hm2 k nu nl
/-- masks of one entry -/
def spMasks (CF : Addr) : Sp := fun vs H Q _ => ∃ (p g : Addr) (tms : List Tm) (env : Str → Option Int) (t : Option Bool) (rest : List (Option Bool)), vs = [.ref p, .ref g, .int 1] ∧ Fi CF H p tms ∧ tms.length ≤ 1000 ∧ GridOk H g env tms ∧
  evs env tms [] = some (t :: rest) ∧ ∀ r G, Same H G → G r = some (.tup (pairV t)) → Q (.ref r) G
theorem scMasks : FnScope ["self", "grid", "full"] ["self", "grid", "full"] (defScope sMasks) := ⟨rfl, rfl, rfl, by decide +kernel, rfl, by decide +kernel, by decide +kernel⟩
theorem ok_masks {CF f : Addr} {fd : FuncData} (F : MethD K "masks" "Filter.masks" sMasks f fd) (T : TxtF K mg CF) (cW : Cal P w K mg base CX0 "weigh" 3 ["terms", "grid", "full"] spWeigh) : FnOk P w K mg base CX0 4 f fd ["self", "grid", "full"] (spMasks CF) := by
  refine F.ok scMasks (fun vs H Q E h => ?_) (fun cdv A outer s0 H vs Q E hr h => ?_)
  · obtain ⟨p, g, tms, env, t, rest, rfl, _⟩ := h
    rfl
  · obtain ⟨p, g, tms, env, t, rest, rfl, ⟨dx, t1, xs, hp, ht, hm⟩, hl, hg, he, k⟩ := h
    refine ⟨_, PSs.nox (pss_one (ps_ret (pe_cal cW hr (pa_cons (pe_fld (pv 0) (by rfl)) (pa_cons (pv 1) (pa_cons (pv 2) pa_nil)))))), ?_⟩
    exact ⟨_, rfl, p, CF, dx, _, .ref t1, rfl, hp, T.cl, T.nT, List.lookup_cons_self, _, rfl, _, rfl, t1, g, tms, xs, env, t, rest, rfl, ht, hm, hl, hg, he, k⟩
/-! the filters that are always true, always false -/
def spNul (CF : Addr) (m : Tm) : Sp := fun vs H Q _ => vs = [] ∧ ∀ q G, H q = none → Same H G → Fi CF G q [m] → Q (.ref q) G
theorem scEvery : FnScope [] [] (defScope sEvery) := ⟨rfl, rfl, rfl, by decide +kernel, rfl, by decide +kernel, by decide +kernel⟩
theorem ok_every {dS CF f : Addr} {fd : FuncData} (F : MethD K "every" "Filter.every" sEvery f fd) (T : TxtTm K mg w dS) (M : MakF P w K mg base CF) : FnOk P w K mg base CX0 3 f fd [] (spNul CF .every) := by
  obtain ⟨tk, gS⟩ := T.every
  refine F.ok scEvery (fun vs H Q E h => ?_) (fun cdv A outer s0 H vs Q E hr h => ?_)
  · obtain ⟨rfl, _⟩ := h
    rfl
  · obtain ⟨rfl, k⟩ := h
    refine ⟨_, PSs.nox (pss_one (ps_ret (pe_filter M hr (pa_cons (pe_lst (pa_cons (pe_tup (pa_cons (pe_glob (v := .str "every") rfl gS ⟨_, rfl⟩) (pa_cons pe_non (pa_cons pe_non pa_nil)))) pa_nil)) pa_nil)))), ?_⟩
    refine ⟨(by show 3 ≤ sizeLine; decide), fun u nu => ⟨(by show 1 ≤ sizeLine; decide), fun l nl => ?_⟩⟩
    have s1 := Lw.Same.new (o := .tup [.str "every", .non, .non]) (Same.refl H) nu
    have s2 := Lw.Same.new (o := .lst [.ref u]) (Same.refl _) nl
    exact filter_new (R := fun x G => Q (.ref x) G) upd_same (tms := [.every]) (.cons ⟨u, rfl, s2 _ _ upd_same, trivial⟩ .nil) fun q G nq s hq => k q G (none_back (s1.trans s2) nq) ((s1.trans s2).trans s) hq
theorem scNothing : FnScope [] [] (defScope sNothing) := ⟨rfl, rfl, rfl, by decide +kernel, rfl, by decide +kernel, by decide +kernel⟩
theorem ok_nothing {dS CF f : Addr} {fd : FuncData} (F : MethD K "nothing" "Filter.nothing" sNothing f fd) (T : TxtTm K mg w dS) (M : MakF P w K mg base CF) : FnOk P w K mg base CX0 3 f fd [] (spNul CF .nothing) := by
  obtain ⟨tk, gS⟩ := T.nothing
  refine F.ok scNothing (fun vs H Q E h => ?_) (fun cdv A outer s0 H vs Q E hr h => ?_)
  · obtain ⟨rfl, _⟩ := h
    rfl
  · obtain ⟨rfl, k⟩ := h
    refine ⟨_, PSs.nox (pss_one (ps_ret (pe_filter M hr (pa_cons (pe_lst (pa_cons (pe_tup (pa_cons (pe_glob (v := .str "nothing") rfl gS ⟨_, rfl⟩) (pa_cons pe_non (pa_cons pe_non pa_nil)))) pa_nil)) pa_nil)))), ?_⟩
    refine ⟨(by show 3 ≤ sizeLine; decide), fun u nu => ⟨(by show 1 ≤ sizeLine; decide), fun l nl => ?_⟩⟩
    have s1 := Lw.Same.new (o := .tup [.str "nothing", .non, .non]) (Same.refl H) nu
    have s2 := Lw.Same.new (o := .lst [.ref u]) (Same.refl _) nl
    exact filter_new (R := fun x G => Q (.ref x) G) upd_same (tms := [.nothing]) (.cons ⟨u, rfl, s2 _ _ upd_same, trivial⟩ .nil) fun q G nq s hq => k q G (none_back (s1.trans s2) nq) ((s1.trans s2).trans s) hq
end
end Lw

set_option Elab.async false
set_option linter.all false
set_option maxRecDepth 100000
set_option maxHeartbeats 4000000
namespace Lw
open PySem PySem.Spec PyProof.Rows L2
abbrev sSource : Stmt := top 40
abbrev sDraw : Stmt := top 41
abbrev sOf : Stmt := top 42
abbrev sNumber : Stmt := top 43
abbrev sWord : Stmt := top 46
abbrev sIsWord : Stmt := top 4
abbrev sIsInteger : Stmt := top 3
abbrev sNear : Stmt := top 44
abbrev sSame : Stmt := top 45
section
variable {P : Program} {w : World} {K : PySem.W.Frag} {mg : Str → Option Value} {base : Heap}
theorem scSource : FnScope ["script", "place", "cell", "digits"] ["script", "place"] (defScope sSource) := ⟨rfl, rfl, rfl, by decide +kernel, rfl, by decide +kernel, by decide +kernel⟩
theorem ok_source {f : Addr} {fd : FuncData} (F : FnP K "_law_source" sSource f fd) (T : TxtD mg) : FnOk P w K mg base CX0 1 f fd ["script", "place"] (spSource K) := by
  refine F.ok scSource (fun vs H Q E h => ?_) (fun cdv A outer s H vs Q E hr h => ?_)
  · obtain ⟨a, ns, i, rfl, _⟩ := h
    rfl
  · obtain ⟨a, ns, i, rfl, hS, hl, i0, i1, k⟩ := h
    refine ⟨_, PSs.nox (pss_cons (ps_set (i := 2) scSource.nd rfl (Or.inl rfl) (pe_ifExp (pt_cmpR op_lt (pv 1) (pe_callB call_len_seq (by rfl) T.len PySem.boot_len (pa_cons (pv 0) pa_nil)) (nomark _)) (pe_ix ix_list (pv 0) (pv 1) (fun _ _ => rfl)) pe_int))
      (pss_cons (ps_set (i := 3) scSource.nd rfl (Or.inl rfl) (pe_ifExp (pt_cmpR op_ge (pe_callB call_abs (by rfl) T.abs (by decide +kernel) (pa_cons (pv 2) pa_nil)) (pe_op op_pow pe_int pe_int) (nomark _)) (pe_callB call_abs (by rfl) T.abs (by decide +kernel) (pa_cons (pv 2) pa_nil)) pe_int))
      (pss_one (ps_ret (pe_lst (pa_cons (pv 3) (pa_cons (pe_op op_add (pe_op op_add (pe_op op_modN (pe_callTy call_int1 (by rfl) T.int (by decide +kernel) (pa_cons (pv 2) pa_nil)) pe_int) (pe_op op_mul pe_int (pv 1))) pe_int) (pa_cons pe_int pa_nil)))))))), ?_⟩
    refine sq_set (fun x H' => H = H' ∧ ∃ c : Int, x = .int c) (fun Q q => ?_) ?_
    · refine ⟨_, rfl, _, rfl, a, _, rfl, .inl hS, _, _, rfl, rfl, _, rfl, ?_⟩
      refine bool_ite (fun c => ?_) (fun c => ?_)
      · obtain ⟨x, hx, hm⟩ := atI_get (xs := ns.map V.int) i0 (by simpa using c)
        obtain ⟨z, _, rfl⟩ := List.mem_map.mp hm
        exact ⟨_, rfl, _, rfl, a, _, _, _, rfl, rfl, hS, hx, q _ _ ⟨rfl, z, rfl⟩⟩
      · exact q _ _ ⟨rfl, 0, rfl⟩
    rintro _ _ ⟨rfl, c, rfl⟩
    refine sq_set (fun x H' => H = H' ∧ ∃ d : Int, x = .int d ∧ 0 ≤ d) (fun Q q => ?_) ?_
    · refine ⟨_, rfl, _, rfl, _, _, rfl, rfl, ⟨by decide, by decide, by decide⟩, _, _, rfl, rfl, _, rfl, ?_⟩
      refine bool_ite (fun _ => ?_) (fun _ => ?_)
      · exact ⟨_, rfl, _, rfl, q _ _ ⟨rfl, _, rfl, by split <;> omega⟩⟩
      · exact q _ _ ⟨rfl, 0, rfl, by decide⟩
    rintro _ _ ⟨rfl, d, rfl, d0⟩
    refine ⟨_, rfl, _, rfl, .inl ⟨_, rfl, _, _, rfl, rfl, (by show (2305843009213693951 : Int) ≠ 0; decide), _, rfl, _, _, rfl, rfl, .inl ⟨by decide, by decide⟩, _, _, rfl, rfl, _, _, rfl, rfl, (by show 3 ≤ sizeLine; decide), fun p hp => ?_⟩⟩
    have hb := fmod_src c
    exact k p _ hp (fun b o h => by rw [upd_ne (ne_of_none h hp)]; exact h) ⟨d, _, 0, upd_same, d0, by omega, by omega, by decide, by decide⟩
theorem scDraw : FnScope ["source", "many", "digit"] ["source", "many"] (defScope sDraw) := ⟨rfl, rfl, rfl, by decide +kernel, rfl, by decide +kernel, by decide +kernel⟩
theorem ok_draw {f : Addr} {fd : FuncData} (F : FnP K "_law_draw" sDraw f fd) (T : TxtD mg) : FnOk P w K mg base CX0 1 f fd ["source", "many"] spDraw := by
  refine F.ok scDraw (fun vs H Q E h => ?_) (fun cdv A outer s H vs Q E hr h => ?_)
  · obtain ⟨a, n, m, rfl, _⟩ := h
    rfl
  · obtain ⟨a, n, m, rfl, ⟨d, s', t, hA, d0, s0, s1, t0, t1⟩, hn, m0, m1, k⟩ := h
    have hu := hu_of hr
    refine ⟨_, PSs.nox (pss_cons (ps_if (pt_cmpR op_gt (pe_ix ix_list (pv 0) pe_int (fun _ _ => rfl)) pe_int (nomark _))
        (pss_cons (ps_set (i := 2) scDraw.nd rfl (Or.inl rfl) (pe_op op_modN (pe_callTy call_int1 (by rfl) T.int (by decide +kernel) (pa_cons (pe_ix ix_list (pv 0) pe_int (fun _ _ => rfl)) pa_nil)) (pv 1)))
          (pss_cons (ps_asg (pe_op op_fdivN (pe_ix ix_list (pv 0) pe_int (fun _ _ => rfl)) (pv 1)) (pg_sub (pv 0) pe_int set_list)) (pss_one (ps_ret (pv 2))))) pss_nil)
      (pss_cons (ps_asg (pe_op op_add (pe_ix ix_list (pv 0) pe_int (fun _ _ => rfl)) pe_int) (pg_sub (pv 0) pe_int set_list))
      (pss_cons (ps_asg (pe_op op_modN (pe_callTy call_int1 (by rfl) T.int (by decide +kernel) (pa_cons (pe_op op_add (pe_op op_add (pe_op op_mul (pe_ix ix_list (pv 0) pe_int (fun _ _ => rfl)) pe_int) (pe_op op_mul (pe_op op_mul pe_int (pe_ix ix_list (pv 0) pe_int (fun _ _ => rfl))) (pe_ix ix_list (pv 0) pe_int (fun _ _ => rfl)))) pe_int) pa_nil)) pe_int) (pg_sub (pv 0) pe_int set_list))
      (pss_one (ps_ret (pe_op op_modN (pe_callTy call_int1 (by rfl) T.int (by decide +kernel) (pa_cons (pe_op op_fdivN (pe_op op_modN (pe_callTy call_int1 (by rfl) T.int (by decide +kernel) (pa_cons (pe_op op_add (pe_op op_pow (pe_op op_fdivN (pe_ix ix_list (pv 0) pe_int (fun _ _ => rfl)) pe_int) pe_int) (pe_op op_mul pe_int (pe_ix ix_list (pv 0) pe_int (fun _ _ => rfl)))) pa_nil)) pe_int) pe_int) pa_nil)) (pv 1))))))), ?_⟩
    have zA : ∀ (r : Int), 0 ≤ r.fmod m ∧ r.fmod m < m := fun r => ⟨Int.fmod_nonneg_of_pos r m0, Int.fmod_lt_of_pos r m0⟩
    have mz : m ≠ 0 := by omega
    have md : m ≠ 0 ∧ m.natAbs < 1073741824 := ⟨mz, by omega⟩
    refine sq_if (fun b H' => H = H' ∧ b = decide (0 < d)) (fun Q q => ?_) ?_ ?_
    · exact ⟨_, rfl, a, _, _, _, rfl, rfl, SqL.of hA, rfl, _, _, rfl, rfl, _, rfl, q _ _ ⟨rfl, rfl⟩⟩
    · rintro _ ⟨rfl, c⟩
      refine ⟨_, rfl, a, _, _, _, rfl, rfl, SqL.of hA, rfl, .inl ⟨_, rfl, _, rfl, _, _, rfl, rfl, mz, ?_⟩⟩
      refine ⟨_, rfl, a, _, _, _, rfl, rfl, SqL.of hA, rfl, _, rfl, _, _, rfl, rfl, md, _, rfl, a, _, _, _, rfl, rfl, hA, rfl, _, rfl, ?_⟩
      exact k _ _ (Keep.refl H).upd ⟨_, _, _, upd_same, Int.fdiv_nonneg d0 (by omega), s0, s1, t0, by omega⟩ (zA d).1 (zA d).2
    · rintro _ ⟨rfl, c⟩
      refine ⟨_, rfl, a, _, _, _, rfl, rfl, SqL.of hA, rfl, _, _, rfl, rfl, _, rfl, a, _, _, _, rfl, rfl, hA, rfl, ?_⟩
      refine ⟨_, rfl, a, _, _, _, rfl, rfl, SqL.of upd_same, rfl, _, _, rfl, rfl, .inl ⟨by show -(2 ^ 64) < s'; omega, by show s' < 2 ^ 64; omega⟩, _, rfl, a, _, _, _, rfl, rfl, SqL.of upd_same, rfl, _, _, rfl, rfl, .inl ⟨by decide, by decide⟩,
        _, rfl, a, _, _, _, rfl, rfl, SqL.of upd_same, rfl, _, _, rfl, rfl, .inr ⟨by show -(2 ^ 64) < t + 1; omega, by show t + 1 < 2 ^ 64; omega⟩, _, _, rfl, rfl, _, _, rfl, rfl, .inl ⟨_, rfl, _, _, rfl, rfl, (by show (2305843009213693951 : Int) ≠ 0; decide), _, rfl, a, _, _, _, rfl, rfl, upd_same, rfl, ?_⟩⟩
      have hb := fmod_src (s' * 69621 + 32452843 * (t + 1) * (t + 1) + 40009)
      have hq : ∀ z : Int, 0 ≤ z ∧ z < 2305843009213693951 → (z.fdiv 256).natAbs < 2 ^ 64 := fun z hz => by
        rw [Int.fdiv_eq_ediv_of_nonneg _ (by decide)]
        omega
      refine ⟨_, rfl, a, _, _, _, rfl, rfl, SqL.of upd_same, rfl, _, _, rfl, rfl, ⟨by decide, by decide⟩, _, _, rfl, rfl, ⟨by decide, by decide, hq _ hb⟩, _, rfl, a, _, _, _, rfl, rfl, SqL.of upd_same, rfl, _, _, rfl, rfl, .inl ⟨by decide, by decide⟩, _, _, rfl, rfl,
        .inl ⟨_, rfl, _, _, rfl, rfl, (by show (2305843009213693921 : Int) ≠ 0; decide), _, _, rfl, rfl, ⟨by decide, by decide⟩, .inl ⟨_, rfl, _, rfl, _, _, rfl, rfl, mz, ?_⟩⟩⟩
      refine k _ _ ((Keep.refl H).upd.upd) ⟨_, _, _, upd_same, d0, by omega, by omega, by omega, by omega⟩ (zA _).1 (zA _).2
theorem cal_draw (T : TxtD mg) (D : DefIs K mg "_law_draw" sDraw) : Cal P w K mg base CX0 "_law_draw" 1 ["source", "many"] spDraw := by
  obtain ⟨f, fd, hm, F⟩ := D
  exact ⟨f, fd, hm, F.kp, ok_draw F T, F.bindsN fun _ _ _ _ _ _ us hl => match us, hl with | [_, _], _ => rfl⟩
theorem scOf : FnScope ["source", "some"] ["source", "some"] (defScope sOf) := ⟨rfl, rfl, rfl, by decide +kernel, rfl, by decide +kernel, by decide +kernel⟩
theorem ok_of {f : Addr} {fd : FuncData} (F : FnP K "_law_of" sOf f fd) (T : TxtD mg) (cD : Cal P w K mg base CX0 "_law_draw" 1 ["source", "many"] spDraw) : FnOk P w K mg base CX0 2 f fd ["source", "some"] (spOf K) := by
  refine F.ok scOf (fun vs H Q E h => ?_) (fun cdv A outer s H vs Q E hr h => ?_)
  · obtain ⟨a, b, n, xs, rfl, _⟩ := h
    rfl
  · obtain ⟨a, b, n, xs, rfl, hs, hn, ba, hb, x0, x1, k⟩ := h
    refine ⟨_, PSs.nox (pss_one (ps_ret (pe_ix ix_list (pv 1) (pe_cal cD hr (pa_cons (pv 0) (pa_cons (pe_callB call_len_seq (by rfl) T.len PySem.boot_len (pa_cons (pv 1) pa_nil)) pa_nil))) (fun _ _ => rfl)))), ?_⟩
    have xl : 0 < xs.length := List.length_pos_iff.mpr x0
    refine ⟨_, rfl, _, rfl, _, rfl, b, _, rfl, .inl hb, a, n, _, rfl, hs, hn, by omega, by omega, fun H' i kp sr i0 i1 => ?_⟩
    obtain ⟨x, hx, hm⟩ := atI_get i0 i1
    exact ⟨b, _, _, _, rfl, rfl, kp.seq ba hb, hx, k _ _ kp sr hm⟩
theorem scNumber : FnScope ["source", "kind", "found", "turn"] ["source"] (defScope sNumber) := ⟨rfl, rfl, rfl, by decide +kernel, rfl, by decide +kernel, by decide +kernel⟩
theorem ok_number {f : Addr} {fd : FuncData} (F : FnP K "_law_number" sNumber f fd) (T : TxtD mg) (cD : Cal P w K mg base CX0 "_law_draw" 1 ["source", "many"] spDraw) : FnOk P w K mg base CX0 2 f fd ["source"] spNumber := by
  refine F.ok scNumber (fun vs H Q E h => ?_) (fun cdv A outer s H vs Q E hr h => ?_)
  · obtain ⟨a, n, rfl, _⟩ := h
    rfl
  · obtain ⟨a, n, rfl, hs, hn, k⟩ := h
    refine ⟨_, PSs.nox (pss_cons (ps_par (i := 1) (j := 2) (by rfl) scNumber.nd rfl rfl (by decide) rfl rfl (pa_cons (pe_cal cD hr (pa_cons (pv 0) (pa_cons pe_int pa_nil))) (pa_cons pe_int pa_nil)) (by rfl))
      (pss_cons (ps_if (pt_cmpR op_lt (pv 1) pe_int (nomark _)) (pss_one (ps_ret (pe_op op_sub (pe_cal cD hr (pa_cons (pv 0) (pa_cons pe_int pa_nil))) pe_int))) pss_nil)
      (pss_cons (ps_for PassesOwn.never rfl (pi_range1 rfl T.range (pa_cons (pe_op op_add pe_int (pe_cal cD hr (pa_cons (pv 0) (pa_cons pe_int pa_nil)))) pa_nil)) (pg_name (i := 3) scNumber.nd rfl (Or.inl rfl))
        (pss_one (ps_set (i := 2) scNumber.nd rfl (Or.inl rfl) (pe_op op_add (pe_op op_mul (pv 2) (pe_op op_pow pe_int pe_int)) (pe_cal cD hr (pa_cons (pv 0) (pa_cons (pe_ifExp (pt_cmpR op_gt (pv 3) pe_int (nomark _)) (pe_op op_pow pe_int pe_int) pe_int) pa_nil)))))))
      (pss_one (ps_ret (pe_ifExp (pt_cmpR op_eq (pv 1) pe_int (nomark _)) (pv 2) (pe_un un_neg (pv 2)))))))), ?_⟩
    refine sq_par (fun x y H' => ∃ kind : Int, x = .int kind ∧ y = .int 0 ∧ Keep a H H' ∧ Src H' a (n + 1)) (fun Q q => ⟨_, rfl, a, n, _, rfl, hs, by omega, by decide, by decide, fun H1 kind k1 s1 i0 i1 => q _ _ _ ⟨kind, rfl, rfl, k1, s1⟩⟩) ?_
    rintro _ _ H1 ⟨kind, rfl, rfl, k1, s1⟩
    refine sq_if (fun b H' => H1 = H' ∧ b = decide (kind < 2)) (fun Q q => ⟨_, rfl, _, _, rfl, rfl, _, rfl, q _ _ ⟨rfl, rfl⟩⟩) ?_ ?_
    · rintro _ ⟨rfl, _⟩
      exact ⟨_, rfl, a, _, _, rfl, s1, by omega, by decide, by decide, fun H2 i k2 s2 _ _ => ⟨_, _, rfl, rfl, k _ _ (k1.trans k2) (s2.mono (by omega))⟩⟩
    · rintro _ ⟨rfl, _⟩
      refine ⟨_, rfl, a, _, _, rfl, s1, by omega, by decide, by decide, fun H2 i k2 s2 j0 j1 => ⟨_, _, rfl, rfl, _, rfl, by omega, by omega, ?_⟩⟩
      refine for_range (lo := 0) (n := (1 + i).toNat) (fun j σ H' => ∃ (z : Int) (v : Option V), σ = [some (.ref a), some (.int kind), some (.int z), v] ∧ Keep a H H' ∧ Src H' a (n + 2 + j)) ⟨0, _, rfl, k1.trans k2, s2⟩ ?_ ?_
      · rintro j σ H' hj ⟨z, v, rfl, k3, s3⟩
        refine s1_set (fun x H'' => ∃ y : Int, x = .int y ∧ Keep a H H'' ∧ Src H'' a (n + 2 + (j + 1))) (fun Q q => ?_) ?_
        · refine ⟨_, rfl, _, _, rfl, rfl, ⟨by decide, by decide, by decide⟩, _, _, rfl, rfl, .inr ⟨by decide, by decide⟩, _, rfl, _, rfl, _, _, rfl, rfl, _, rfl, ?_⟩
          have hj2 : n + 2 + j ≤ 1000000000 := by omega
          refine bool_ite (fun _ => ?_) (fun _ => ?_)
          · exact ⟨_, _, rfl, rfl, ⟨by decide, by decide, by decide⟩, a, _, _, rfl, s3, hj2, by decide, by decide, fun H4 i4 k4 s4 _ _ => ⟨_, _, rfl, rfl, q _ _ ⟨_, rfl, k3.trans k4, s4⟩⟩⟩
          · exact ⟨a, _, _, rfl, s3, hj2, by decide, by decide, fun H4 i4 k4 s4 _ _ => ⟨_, _, rfl, rfl, q _ _ ⟨_, rfl, k3.trans k4, s4⟩⟩⟩
        · rintro _ H4 ⟨y, rfl, k4, s4⟩
          exact ⟨y, _, rfl, k4, s4⟩
      · rintro σ H' ⟨z, v, rfl, k3, s3⟩
        refine ⟨_, rfl, rfl, _, rfl, ?_⟩
        have hs' : Src H' a (n + 8) := s3.mono (by omega)
        refine bool_ite (fun _ => ?_) (fun _ => ?_)
        · exact ⟨_, rfl, k _ _ k3 hs'⟩
        · exact ⟨_, rfl, _, rfl, k _ _ k3 hs'⟩
theorem scWord : FnScope nWord ["source", "taken"] (defScope sWord) := ⟨rfl, rfl, rfl, by decide +kernel, rfl, by decide +kernel, by decide +kernel⟩
theorem ok_word {f : Addr} {fd : FuncData} (F : FnP K "_law_word" sWord f fd) (T : TxtD mg) (cD : Cal P w K mg base CX0 "_law_draw" 1 ["source", "many"] spDraw) : FnOk P w K mg base CX0 2 f fd ["source", "taken"] (spWord K) := by
  refine F.ok scWord (fun vs H Q E h => ?_) (fun cdv A outer s H vs Q E hr h => ?_)
  · obtain ⟨a, b, n, ts, rfl, _⟩ := h
    rfl
  · obtain ⟨a, b, n, ts, rfl, hs, hn, ba, hb, hts, k⟩ := h
    refine ⟨_, PSs.nox (pss_cons (ps_set (i := 2) scWord.nd rfl (Or.inr rfl) pe_str)
      (pss_cons (ps_set (i := 3) scWord.nd rfl (Or.inr rfl) (pe_join pe_str (pe_lc (own := [("turn", 5)]) (g := gName 5) (tt := tYes) rfl scWord.nd (pi_range1 rfl T.range (pa_cons (pe_op op_add pe_int (pe_cal cD hr (pa_cons (pv 0) (pa_cons pe_int pa_nil)))) pa_nil))
        (blkOk_by (N := nWord) (sc := defScope sWord) (by decide +kernel)) (fun _ _ _ _ _ => pg_name (i := 5) scWord.nd rfl (Or.inl rfl)) (fun _ _ _ _ _ => pts_nil) (fun _ _ _ _ _ => pe_ix ix_str (pv 2) (pe_cal cD hr (pa_cons (pv 0) (pa_cons pe_int pa_nil))) (fun _ _ => rfl)))))
      (pss_cons (ps_if (pt_cmpR op_notIn_seq (pv 3) (pv 1) rfl) (pss_one (ps_ret (pv 3))) pss_nil)
      (pss_cons (ps_setLc (i := 4) (own := [("letter", 6)]) (g := gName 6) (tt := tTest (tOp (rIn K true) (tSl rSlS (tOp _ (tVar 6) (tVar 3)) tNoPart (tPart (tC (.int 8)))) (tVar 1))) rfl scWord.nd rfl rfl (sw_true rfl rfl rfl (by decide +kernel)) (pi_str (pv 2)) (blkOk_by (N := nWord) (sc := defScope sWord) (by decide +kernel))
        (fun _ _ _ _ _ => pg_name (i := 6) scWord.nd rfl (Or.inl rfl)) (fun _ _ _ _ _ => pts_one (pt_cmpR op_notIn_seq (pe_slice sl_str (pe_op op_add_str (pv 6) (pv 3)) po_none (po_some pe_int)) (pv 1) rfl)) (fun _ _ _ _ _ => pv 6))
      (pss_one (ps_ret (pe_slice sl_str (pe_op op_add_str (pe_ix ix_list (pv 4) pe_int (fun _ _ => rfl)) (pv 3)) po_none (po_some pe_int)))))))), ?_⟩
    refine sq_set (fun x H' => H = H' ∧ x = .str letters) (fun Q q => q _ _ ⟨rfl, rfl⟩) ?_
    rintro _ _ ⟨rfl, rfl⟩
    refine sq_set (fun x H' => ∃ z, x = .str z ∧ IsWord z ∧ Keep a H H' ∧ Src H' a (n + 10)) (fun Q q => ?_) ?_
    · refine ⟨⟨_, rfl⟩, _, rfl, a, n, _, rfl, hs, by omega, by decide, by decide, fun H1 i k1 s1 i0 i1 => ⟨_, _, rfl, rfl, _, rfl, by omega, by omega, fun D hD => ?_⟩⟩
      have Da : D ≠ a := s1.ne hD
      refine lc_range (lo := 0) (n := (1 + i).toNat) (fun j H' => ∃ cs : List Nat, H' D = some (.lst ((cs.map sign).map V.str)) ∧ cs.length = j ∧ (∀ c ∈ cs, c ∈ abc) ∧ Keep a H H' ∧ Src H' a (n + 1 + j))
        ⟨[], upd_same, rfl, fun _ h => (List.not_mem_nil h).elim, k1.new hD, s1.new hD⟩ ?_ ?_
      · rintro j H' hj ⟨cs, hd, hl, ha, k2, s2⟩
        refine ⟨rfl, _, rfl, _, rfl, a, _, _, rfl, s2, by omega, by decide, by decide, fun H3 i3 k3 s3 j0 j1 => ?_⟩
        obtain ⟨c, hc, hm⟩ := abc_at j0 j1
        have hd3 := k3 _ _ Da hd
        refine ⟨_, _, c, rfl, rfl, (by show letters.cps.size ≤ sizeLine; rw [letters_cps]; decide), hc, _, hd3, by simp only [List.length_map, hl]; exact small1000 (by omega), cs ++ [c], ?_, by simp [hl], fun x hx => ?_, ?_, ?_⟩
        · rw [upd_same]; simp [sign]
        · rcases List.mem_append.mp hx with h | h
          · exact ha x h
          · rw [List.mem_singleton.mp h]; exact hm
        · intro b' o nb ho
          have e := k3 b' o nb (k2 b' o nb ho)
          by_cases hbD : b' = D
          · exfalso
            rw [hbD] at ho nb
            have := k1 D o nb ho
            rw [hD] at this
            cases this
          · rw [upd_ne hbD]; exact e
        · obtain ⟨d, s', t, h1, h2⟩ := s3
          exact ⟨d, s', t, by rw [upd_ne Da.symm]; exact h1, h2⟩
      · rintro H' ⟨cs, hd, hl, ha, k2, s2⟩
        refine ⟨_, D, cs.map sign, rfl, rfl, .inl (SqL.of hd), ?_, ?_⟩
        · have e1 : ((cs.map sign).map (·.length)).sum = cs.length := by
            clear hd hl ha
            induction cs with
            | nil => rfl
            | cons c r ih => simp only [List.map_cons, List.sum_cons, ih, List.length_cons]; show 1 + _ = _; omega
          have e2 : (PySem.Str.ofString "").length = 0 := by decide +kernel
          rw [e1, e2]
          omega
        · have e : (Txt.join (PySem.Str.ofString "") (cs.map sign)).cps.toList = cs := join_signs _ (by decide +kernel) cs
          refine q _ _ ⟨_, rfl, ⟨?_, ?_, ?_⟩, k2, s2.mono (by omega)⟩
          · rw [len_tl, e]; omega
          · rw [len_tl, e]; omega
          · rw [e]; exact fun c hc => abc_le (ha c hc)
    rintro _ H1 ⟨z, rfl, hz, k1, s1⟩
    have hb1 := k1.seq ba hb
    refine sq_if1 (fun b' H' => H1 = H' ∧ (b' = true → z ∉ ts)) (fun Q q => ?_) ?_ ?_
    · refine ⟨_, rfl, _, rfl, b, _, rfl, .inl hb1, rfl, flat_strs ts, _, rfl, q _ _ ⟨rfl, fun h => ?_⟩⟩
      have h2 : (!inV (.str z) (ts.map V.str)) = true := h
      rw [inV_str] at h2
      simpa using h2
    · rintro _ ⟨rfl, hnt⟩
      exact ⟨_, rfl, k _ _ k1 s1 hz (hnt rfl)⟩
    rintro _ ⟨rfl, _⟩
    refine sq_set (fun x H' => ∃ D, x = .ref D ∧ D ≠ a ∧ H' D = some (.lst (((abc.filter (fun c => !decide (cand z c ∈ ts))).map sign).map V.str)) ∧ Keep a H H' ∧ Src H' a (n + 10)) (fun Q q => ?_) ?_
    · refine ⟨_, rfl, _, rfl, fun D hD => ?_⟩
      have Da : D ≠ a := s1.ne hD
      refine lc_it walk_str (fun j H' => H' D = some (.lst ((((abc.take j).filter (fun c => !decide (cand z c ∈ ts))).map sign).map V.str)) ∧ Keep a H H' ∧ Src H' a (n + 10))
        ⟨upd_same, k1.new hD, s1.new hD⟩ (fun _ _ _ _ => trivial) ?_ ?_
      · rintro j x H' _ hj ⟨hd, k2, s2⟩ ⟨rfl, c, hc, rfl⟩
        have hc2 : abc[j]? = some c := by
          rw [letters_cps] at hc
          simpa using hc
        have ht : abc.take (j + 1) = abc.take j ++ [c] := by rw [List.take_add_one, hc2]; rfl
        refine ⟨rfl, _, rfl, _, rfl, _, _, rfl, rfl, ?_, _, rfl, _, rfl, ?_, _, rfl, b, _, rfl, .inl (k2.seq ba hb), rfl, flat_strs ts, _, rfl, ?_⟩
        · have := hz.2.1
          show 1 + z.length ≤ sizeLine
          exact Nat.le_trans (show 1 + z.length ≤ 9 by omega) (by decide)
        · show (sign c ++ z).length ≤ sizeLine
          have := hz.2.1
          rw [len_tl] at this
          rw [len_tl, tl_app]
          simp only [List.length_append, tl_sign, List.length_singleton]
          exact Nat.le_trans (show 1 + z.cps.toList.length ≤ 9 by omega) (by decide)
        · refine str_notmem (fun h => ?_) (fun h => ?_)
          · refine ⟨_, rfl, _, hd, ?_, ?_, ?_, ?_⟩
            · simp only [List.length_map]
              refine Nat.lt_of_le_of_lt (List.length_filter_le _ _) (Nat.lt_of_le_of_lt (List.length_take_le' _ _) (by decide))
            · rw [upd_same, ht, List.filter_append, List.map_append, List.map_append]
              have e : [c].filter (fun c => !decide (cand z c ∈ ts)) = [c] := by
                have h2 : cand z c ∉ ts := h
                simp [h2]
              rw [e]
              rfl
            · intro b' o nb ho
              by_cases hbD : b' = D
              · exfalso
                rw [hbD] at ho nb
                have := k1 D o nb ho
                rw [hD] at this
                cases this
              · rw [upd_ne hbD]; exact k2 b' o nb ho
            · obtain ⟨d, s', t, h1, h2⟩ := s2
              exact ⟨d, s', t, by rw [upd_ne Da.symm]; exact h1, h2⟩
          · refine ⟨?_, k2, s2⟩
            rw [ht, List.filter_append]
            have e : [c].filter (fun c => !decide (cand z c ∈ ts)) = [] := by
              have h2 : cand z c ∈ ts := h
              simp [h2]
            rw [e, List.append_nil]
            exact hd
      · rintro H' ⟨hd, k2, s2⟩
        refine q _ _ ⟨D, rfl, Da, ?_, k2, s2⟩
        have e : abc.take letters.cps.size = abc := by rw [letters_cps]; rfl
        rw [e] at hd
        exact hd
    rintro _ H2 ⟨D, rfl, Da, hd, k2, s2⟩
    have hne := free_some z ts hts
    obtain ⟨c, r, hcr⟩ := List.exists_cons_of_ne_nil hne
    have hc : c ∈ abc.filter (fun c => !decide (cand z c ∈ ts)) := by rw [hcr]; exact List.mem_cons_self
    obtain ⟨hca, hcn⟩ := List.mem_filter.mp hc
    have hcn2 : cand z c ∉ ts := by simpa using hcn
    rw [hcr] at hd
    refine ⟨_, rfl, D, _, _, _, rfl, rfl, SqL.of hd, atI_nat (j := 0) rfl, _, rfl, _, _, rfl, rfl, ?_, _, rfl, _, rfl, ?_, k _ _ k2 s2 (cand_word hz hca) hcn2⟩
    · have := hz.2.1
      show 1 + z.length ≤ sizeLine
      exact Nat.le_trans (show 1 + z.length ≤ 9 by omega) (by decide)
    · show (sign c ++ z).length ≤ sizeLine
      have := hz.2.1
      rw [len_tl] at this
      rw [len_tl, tl_app]
      simp only [List.length_append, tl_sign, List.length_singleton]
      exact Nat.le_trans (show 1 + z.cps.toList.length ≤ 9 by omega) (by decide)
theorem scIsWord : FnScope ["value", "letter"] ["value"] (defScope sIsWord) := ⟨rfl, rfl, rfl, by decide +kernel, rfl, by decide +kernel, by decide +kernel⟩
theorem ok_isWord {f : Addr} {fd : FuncData} (F : FnP K "is_word" sIsWord f fd) (T : TxtP mg) : FnOk P w K mg base CX0 1 f fd ["value"] (spIsWord K) := by
  obtain ⟨tk, hlw⟩ := T.longest
  refine F.ok scIsWord (fun vs H Q E h => ?_) (fun cdv A outer s H vs Q E hr h => ?_)
  · obtain ⟨v, b, rfl, _⟩ := h
    rfl
  · obtain ⟨v, b, rfl, hv, k⟩ := h
    refine ⟨_, PSs.nox (pss_cons (ps_if (PW.pt (pw_or (pt_not (pt_val (pe_callB call_isi (by rfl) T.isi (by decide +kernel) (pa_cons (pv 0) (pa_cons (pe_bltn (v := .ty "str") (by rfl) T.str (by decide +kernel) rfl) pa_nil)))))
        (pw_or1 (pt_not (pt_chain op_le op_le pe_int (pe_callB call_len_str (by rfl) T.len PySem.boot_len (pa_cons (pv 0) pa_nil)) (pe_glob (v := .int 8) rfl hlw ⟨_, rfl⟩)))))) (pss_one (ps_ret pe_bl)) pss_nil)
      (pss_one (ps_ret (pe_callB (cr_all rfl) (by rfl) T.all (by decide +kernel) (pa_cons (pe_lc (own := [("letter", 1)]) (g := gName 1) (tt := tYes) rfl scIsWord.nd (pi_str (pv 0)) (blkOk_by (N := ["value", "letter"]) (sc := defScope sIsWord) (by decide +kernel))
        (fun _ _ _ _ _ => pg_name (i := 1) scIsWord.nd rfl (Or.inl rfl)) (fun _ _ _ _ _ => pts_nil) (fun _ _ _ _ _ => pe_chain op_le_str op_le_str pe_str (pv 1) pe_str)) pa_nil))))), ?_⟩
    have isz : ∀ z : Str, z.length ≤ 1000 → z.length ≤ sizeLine := fun z hz => Nat.le_trans hz (by decide)
    rcases hv with ⟨z, rfl, hz, rfl⟩ | ⟨rfl, t, ht, kt⟩
    · refine sq_if1 (fun b' H' => H = H' ∧ b' = !(decide (1 ≤ z.length) && decide (z.length ≤ 8))) (fun Q q => ?_) ?_ ?_
      · refine ⟨_, rfl, _, _, _, _, true, rfl, .ty _, ty_str z, kit_ty (by decide +kernel), true, rfl, iteF ⟨_, rfl, _, rfl, isz z hz, _, _, rfl, rfl, _, rfl, ?_⟩⟩
        refine bool_ite (fun c => ?_) (fun c => ?_)
        · refine ⟨_, _, rfl, rfl, _, rfl, q _ _ ⟨rfl, ?_⟩⟩
          have c1 : 1 ≤ z.length := by omega
          rw [decide_eq_true c1, Bool.true_and]
          congr 1
          exact decide_eq_decide.mpr (by omega)
        · refine ⟨_, rfl, q _ _ ⟨rfl, ?_⟩⟩
          have c1 : ¬ 1 ≤ z.length := by omega
          rw [decide_eq_false c1, Bool.false_and]
      · rintro _ ⟨rfl, e⟩
        have e1 : isWordB z = false := by
          unfold isWordB
          rw [← Bool.and_assoc]
          have e2 : (decide (1 ≤ z.length) && decide (z.length ≤ 8)) = false := by
            cases q : (decide (1 ≤ z.length) && decide (z.length ≤ 8)) with
            | false => rfl
            | true => rw [q] at e; cases e
          rw [e2, Bool.false_and]
        rw [e1] at k
        exact k _ (Same.refl H)
      · rintro _ ⟨rfl, e⟩
        have e2 : (decide (1 ≤ z.length) && decide (z.length ≤ 8)) = true := by
          cases q : (decide (1 ≤ z.length) && decide (z.length ≤ 8)) with
          | true => rfl
          | false => rw [q] at e; cases e
        have e1 : isWordB z = z.cps.toList.all fun c => decide (97 ≤ c) && decide (c ≤ 122) := by
          unfold isWordB
          rw [← Bool.and_assoc, e2, Bool.true_and]
        refine ⟨_, rfl, z, rfl, fun D hD => ?_⟩
        refine lc_it walk_str (fun j H' => H' D = some (.lst (((z.cps.toList.take j).map fun c => decide (97 ≤ c) && decide (c ≤ 122)).map V.bl)) ∧ Same H H')
          ⟨upd_same, fun b o h => by rw [upd_ne (ne_of_none h hD)]; exact h⟩ (fun _ _ _ _ => trivial) ?_ ?_
        · rintro j x _ H' hj ⟨hd, k2⟩ ⟨rfl, c, hc, rfl⟩
          have hc2 : z.cps.toList[j]? = some c := by simpa using hc
          have ht : z.cps.toList.take (j + 1) = z.cps.toList.take j ++ [c] := by rw [List.take_add_one, hc2]; rfl
          have fin : ∀ b' : Bool, b' = (decide (97 ≤ c) && decide (c ≤ 122)) → ∃ acc, H' D = some (.lst acc) ∧ acc.length < sizeLine ∧ ((upd H' D (.lst (acc ++ [.bl b']))) D = some (.lst (((z.cps.toList.take (j + 1)).map fun c => decide (97 ≤ c) && decide (c ≤ 122)).map V.bl)) ∧ Same H (upd H' D (.lst (acc ++ [.bl b'])))) := fun b' hb' => by
            refine ⟨_, hd, ?_, ?_, fun b o h => ?_⟩
            · simp only [List.length_map]
              rw [len_tl] at hz
              exact Nat.lt_of_le_of_lt (List.length_take_le' _ _) (Nat.lt_of_le_of_lt hz (by decide))
            · rw [upd_same, ht, List.map_append, List.map_append, hb']
              rfl
            · by_cases hbD : b = D
              · rw [hbD, hD] at h
                cases h
              · rw [upd_ne hbD]; exact k2 b o h
          have la : ∀ c d : Nat, decide (([c] : List Nat) < [d]) = decide (c < d) := lt_sign
          refine ⟨rfl, _, rfl, _, _, rfl, rfl, _, rfl, ?_⟩
          show if (!decide ([c] < [97])) = true then _ else _
          rw [lt_sign]
          by_cases c1 : c < 97
          · rw [decide_eq_true c1, Bool.not_true, if_neg Bool.false_ne_true]
            exact fin false (by rw [decide_eq_false (by omega : ¬ 97 ≤ c), Bool.false_and])
          · rw [decide_eq_false c1, Bool.not_false, if_pos rfl]
            refine ⟨_, _, rfl, rfl, ?_⟩
            show ∃ acc, _ ∧ _ ∧ _
            have e3 : (!decide ([122] < ([c] : List Nat))) = (decide (97 ≤ c) && decide (c ≤ 122)) := by
              rw [lt_sign, decide_eq_true (by omega : 97 ≤ c), Bool.true_and]
              by_cases c2 : c ≤ 122
              · rw [decide_eq_true c2, decide_eq_false (by omega : ¬ 122 < c)]; rfl
              · rw [decide_eq_false c2, decide_eq_true (by omega : 122 < c)]; rfl
            exact fin _ e3
        · rintro H' ⟨hd, k2⟩
          have e4 : z.cps.toList.take z.cps.size = z.cps.toList := List.take_of_length_le (by simp)
          rw [e4] at hd
          refine ⟨D, _, rfl, SqL.of hd, ?_⟩
          have e5 : (z.cps.toList.map fun c => decide (97 ≤ c) && decide (c ≤ 122)).all id = isWordB z := by
            rw [e1, List.all_map]
            rfl
          show Q (.bl _) H'
          rw [e5]
          exact k _ k2
    · refine sq_if1 (fun b' H' => H = H' ∧ b' = true) (fun Q q => ⟨_, rfl, _, _, _, _, false, rfl, .ty _, ht, kit_ty kt, false, rfl, iteT (q _ _ ⟨rfl, rfl⟩)⟩) ?_ ?_
      · rintro _ ⟨rfl, _⟩
        exact k _ (Same.refl H)
      · rintro _ ⟨_, e⟩
        cases e
theorem scIsInteger : FnScope ["value"] ["value"] (defScope sIsInteger) := ⟨rfl, rfl, rfl, by decide +kernel, rfl, by decide +kernel, by decide +kernel⟩
theorem ok_isInteger {f : Addr} {fd : FuncData} (F : FnP K "is_integer" sIsInteger f fd) (T : TxtP mg) : FnOk P w K mg base CX0 1 f fd ["value"] (spIsInteger K) := by
  refine F.ok scIsInteger (fun vs H Q E h => ?_) (fun cdv A outer s H vs Q E hr h => ?_)
  · obtain ⟨v, b, rfl, _⟩ := h
    rfl
  · obtain ⟨v, b, rfl, hv, k⟩ := h
    refine ⟨_, PSs.nox (pss_one (ps_ret (pe_and (pe_callB call_isi (by rfl) T.isi (by decide +kernel) (pa_cons (pv 0) (pa_cons (pe_bltn (v := .ty "int") (by rfl) T.int (by decide +kernel) rfl) pa_nil)))
      (pe_one (pe_not (pe_callB call_isi (by rfl) T.isi (by decide +kernel) (pa_cons (pv 0) (pa_cons (pe_bltn (v := .ty "bool") (by rfl) T.bool (by decide +kernel) rfl) pa_nil)))))))), ?_⟩
    rcases hv with ⟨rfl, i, rfl⟩ | ⟨rfl, ⟨c, rfl⟩ | ⟨t, ht, kt⟩⟩
    · exact ⟨_, rfl, _, _, _, _, true, rfl, .ty _, ty_int i, kit_ty (by decide +kernel), true, rfl, iteT ⟨_, rfl, _, _, _, _, false, rfl, .ty _, ty_int i, kit_ty (by decide +kernel), false, rfl, k⟩⟩
    · exact ⟨_, rfl, _, _, _, _, true, rfl, .ty _, ty_bl c, kit_ty (by decide +kernel), true, rfl, iteT ⟨_, rfl, _, _, _, _, true, rfl, .ty _, ty_bl c, kit_ty (by decide +kernel), true, rfl, k⟩⟩
    · exact ⟨_, rfl, _, _, _, _, false, rfl, .ty _, ht, kit_ty kt, false, rfl, iteF k⟩
/-! a number at or beside one of some -/
theorem dp_ints {K : PySem.W.Frag} {H : Hp} : ∀ ns : List Int, DpAll K H (ns.map V.int) (ns.map PyData.int)
  | [] => .nil
  | i :: r => .cons (.int i) (dp_ints r)
theorem ints_ok : ∀ ns : List Int, PyData.canLayAll0 (ns.map PyData.int) = true ∧ PyData.depthAll (ns.map PyData.int) = 0
  | [] => ⟨rfl, rfl⟩
  | i :: r => by
    have ih := ints_ok r
    refine ⟨?_, ?_⟩
    · show (PyData.canLay0 (.int i) && PyData.canLayAll0 (r.map PyData.int)) = true
      rw [ih.1]
      rfl
    · show max (PyData.depth (.int i)) (PyData.depthAll (r.map PyData.int)) = 0
      rw [ih.2]
      rfl
theorem shaped_ints (ns : List Int) : SeqAt.shaped (.list (ns.map PyData.int)) = true := by
  obtain ⟨h1, h2⟩ := ints_ok ns
  have e1 : PyData.canLay0 (.list (ns.map PyData.int)) = true := h1
  have e2 : PyData.depth (.list (ns.map PyData.int)) = 1 := by
    show PyData.depthAll (ns.map PyData.int) + 1 = 1
    rw [h2]
  unfold SeqAt.shaped
  rw [e1, e2]
  rfl
theorem eqv_nil (ns : List Int) : PyData.eqv (.list (ns.map PyData.int)) (.list []) = decide (ns = []) := by
  cases ns with
  | nil => rfl
  | cons i r => rfl
def spNear (K : PySem.W.Frag) : Sp := fun vs H Q _ => ∃ (a b : Addr) (n : Nat) (ns : List Int), vs = [.ref a, .ref b] ∧ Src H a n ∧ n ≤ 800000000 ∧ b ≠ a ∧ SqL K H b (ns.map V.int) ∧ ns.length ≤ 1000 ∧ ∀ H' i, Keep a H H' → Src H' a (n + 10) → Q (.int i) H'
theorem scNear : FnScope ["source", "numbers"] ["source", "numbers"] (defScope sNear) := ⟨rfl, rfl, rfl, by decide +kernel, rfl, by decide +kernel, by decide +kernel⟩
theorem ok_near {f : Addr} {fd : FuncData} (F : FnP K "_law_near" sNear f fd) (cD : Cal P w K mg base CX0 "_law_draw" 1 ["source", "many"] spDraw) (cN : Cal P w K mg base CX0 "_law_number" 2 ["source"] spNumber) (cO : Cal P w K mg base CX0 "_law_of" 2 ["source", "some"] (spOf K)) :
    FnOk P w K mg base CX0 3 f fd ["source", "numbers"] (spNear K) := by
  refine F.ok scNear (fun vs H Q E h => ?_) (fun cdv A outer s0 H vs Q E hr h => ?_)
  · obtain ⟨a, b, n, ns, rfl, _⟩ := h
    rfl
  · obtain ⟨a, b, n, ns, rfl, hs, hn, ba, hb, hl, k⟩ := h
    have h1 : Room 1 _ := hr.mono (by decide)
    refine ⟨_, PSs.nox (pss_cons (ps_if (PW.pt (pw_or (pt_cmpR (op_eqD hr.units) (pv 1) (pe_lst pa_nil) (nomark _)) (pw_or1 (pt_cmpR op_eq (pe_cal cD h1 (pa_cons (pv 0) (pa_cons pe_int pa_nil))) pe_int (nomark _)))))
        (pss_one (ps_ret (pe_cal cN hr (pa_cons (pv 0) pa_nil)))) pss_nil)
      (pss_one (ps_ret (pe_op op_sub (pe_op op_add (pe_cal cO hr (pa_cons (pv 0) (pa_cons (pv 1) pa_nil))) (pe_cal cD h1 (pa_cons (pv 0) (pa_cons pe_int pa_nil)))) pe_int)))), ?_⟩
    refine sq_if1 (fun b' H1 => Keep a H H1 ∧ Src H1 a (n + 1) ∧ (b' = false → ns ≠ [])) (fun Q q => ?_) ?_ ?_
    · refine ⟨_, rfl, (by show 0 ≤ sizeLine; decide), fun l nl => ?_⟩
      have sl := Lw.Same.new (o := .lst []) (Same.refl H) nl
      refine ⟨.list (ns.map PyData.int), .list [], .lst (sl.seq hb) (dp_ints ns), .lst (SqL.of upd_same) .nil, shaped_ints ns, by decide +kernel, _, rfl, ?_⟩
      rw [eqv_nil]
      by_cases e : ns = []
      · rw [decide_eq_true e]
        exact iteT (q _ _ ⟨Keep.of_same sl, (hs.same sl).mono (by omega), fun z => by cases z⟩)
      · rw [decide_eq_false e]
        exact iteF ⟨_, rfl, a, n, _, rfl, hs.same sl, by omega, by decide, by decide, fun H1 i k1 s1 _ _ => ⟨rfl, _, rfl, q _ _ ⟨(Keep.of_same sl).trans k1, s1, fun _ => e⟩⟩⟩
    · rintro H1 ⟨k1, s1, _⟩
      exact ⟨_, rfl, a, n + 1, rfl, s1, by omega, fun H2 i k2 s2 => k H2 i (k1.trans k2) (s2.mono (by omega))⟩
    · rintro H1 ⟨k1, s1, hne⟩
      refine ⟨_, rfl, _, rfl, a, b, n + 1, _, rfl, s1, by omega, ba, k1.seq ba hb, (fun z => hne rfl (List.map_eq_nil_iff.mp z)), (by rw [List.length_map]; omega), fun H2 x k2 s2 hx => ?_⟩
      obtain ⟨i, hi, rfl⟩ := List.mem_map.mp hx
      exact ⟨_, rfl, a, n + 2, _, rfl, s2, by omega, by decide, by decide, fun H3 j k3 s3 _ _ => ⟨_, _, rfl, rfl, _, _, rfl, rfl, k H3 _ ((k1.trans k2).trans k3) (s3.mono (by omega))⟩⟩
/-! whether two truths are the same -/
abbrev threeD (t : Option Bool) : List PyData := [.bool (decide (t = some true)), .bool (decide (t = some false)), .bool (decide (t = none))]
theorem three_eqv : ∀ a b : Option Bool, PyData.eqv (.tuple (threeD a)) (.tuple (threeD b)) = decide (a = b) := by
  intro a b
  rcases a with _ | _ | _ <;> rcases b with _ | _ | _ <;> decide +kernel
theorem three_shaped (a : Option Bool) : SeqAt.shaped (.tuple (threeD a)) = true := by
  rcases a with _ | _ | _ <;> decide +kernel
theorem tV_none (t : Option Bool) : decide (tV t = .non) = decide (t = none) := by rcases t with _ | _ | _ <;> rfl
def spSame : Sp := fun vs H Q _ => ∃ a b : Option Bool, vs = [tV a, tV b] ∧ ∀ G, Same H G → Q (.bl (decide (a = b))) G
theorem scSame : FnScope ["told", "due"] ["told", "due"] (defScope sSame) := ⟨rfl, rfl, rfl, by decide +kernel, rfl, by decide +kernel, by decide +kernel⟩
theorem ok_same {f : Addr} {fd : FuncData} (F : FnP K "_law_same" sSame f fd) : FnOk P w K mg base CX0 1 f fd ["told", "due"] spSame := by
  refine F.ok scSame (fun vs H Q E h => ?_) (fun cdv A outer s0 H vs Q E hr h => ?_)
  · obtain ⟨a, b, rfl, _⟩ := h
    rfl
  · obtain ⟨a, b, rfl, k⟩ := h
    refine ⟨_, PSs.nox (pss_one (ps_ret (pe_cmpR (op_eqD hr.units)
      (pe_tup (pa_cons (pe_cmpR Tr.op_isNb (pv 0) pe_bl (nomark _)) (pa_cons (pe_cmpR Tr.op_isNb (pv 0) pe_bl (nomark _)) (pa_cons (pe_cmpR op_isN (pv 0) pe_non (nomark _)) pa_nil))))
      (pe_tup (pa_cons (pe_cmpR Tr.op_isNb (pv 1) pe_bl (nomark _)) (pa_cons (pe_cmpR Tr.op_isNb (pv 1) pe_bl (nomark _)) (pa_cons (pe_cmpR op_isN (pv 1) pe_non (nomark _)) pa_nil)))) (nomark _)))), ?_⟩
    have tv : ∀ t : Option Bool, tV t = (match t with | some c => .bl c | none => .non) := fun t => by cases t <;> rfl
    refine ⟨_, rfl, a, true, tv a, rfl, _, rfl, a, false, tv a, rfl, _, rfl, rfl, (by show 3 ≤ sizeLine; decide), fun u nu => ?_⟩
    refine ⟨_, rfl, b, true, tv b, rfl, _, rfl, b, false, tv b, rfl, _, rfl, rfl, (by show 3 ≤ sizeLine; decide), fun r nr => ?_⟩
    rw [tV_none, tV_none] at *
    have s1 := Lw.Same.new (o := .tup [.bl (decide (a = some true)), .bl (decide (a = some false)), .bl (decide (a = none))]) (Same.refl H) nu
    have s2 := Lw.Same.new (o := .tup [.bl (decide (b = some true)), .bl (decide (b = some false)), .bl (decide (b = none))]) (Same.refl _) nr
    refine ⟨.tuple (threeD a), .tuple (threeD b), .tup (SqT.of (s2 _ _ upd_same)) (.cons (.bl _) (.cons (.bl _) (.cons (.bl _) .nil))), .tup (SqT.of upd_same) (.cons (.bl _) (.cons (.bl _) (.cons (.bl _) .nil))), three_shaped a, three_shaped b, ?_⟩
    rw [three_eqv]
    exact k _ (s1.trans s2)
end
end Lw

set_option Elab.async false
set_option linter.all false
set_option maxRecDepth 100000
set_option maxHeartbeats 4000000
namespace Lw
open PySem PySem.Spec PyProof.Rows L2
/-! the draws of the later laws: also out of very many -/
def spDrawW : Sp := fun vs H Q _ => ∃ (a : Addr) (n : Nat) (m : Int), vs = [.ref a, .int m] ∧ Src H a n ∧ n ≤ 1000000000 ∧ 0 < m ∧ m.natAbs < 2 ^ 200 ∧
  ∀ H' i, Keep a H H' → Src H' a (n + 1) → 0 ≤ i → i < m → Q (.int i) H'
theorem small_m {m : Int} (h : -1000000000000000000000 < m ∧ m < 1000000000000000000000) : m.natAbs < 2 ^ 200 := by omega
/-! a tuple that the module holds -/
def tupB (K : PySem.W.Frag) (a : Addr) (xs : List V) : Bool := match K.lookup a with
  | some ⟨.type t, _, .seq its _, _⟩ => decide (t = "tuple") && (decide (its.size ≤ 1000) && decide (its.toList.map absV = xs.map some))
  | _ => false
theorem rel_of_abs {x : V} {u : Value} (h : absV u = some x) : RelV x u := by
  unfold absV at h
  split at h <;> first | cases h | skip
  all_goals first | rfl | exact ⟨_, rfl⟩
theorem vals_of_abs : ∀ {us : List Value} {xs : List V}, us.map absV = xs.map some → Vals xs us
  | [], [], _ => .nil
  | u :: us, x :: xs, h => by
    simp only [List.map_cons, List.cons.injEq] at h
    exact .cons (rel_of_abs h.1) (vals_of_abs h.2)
  | [], _ :: _, h => by cases h
  | _ :: _, [], h => by cases h
theorem tupB_ok {K : PySem.W.Frag} {a : Addr} {xs : List V} {H : Hp} (h : tupB K a xs = true) : SqT K H a xs := by
  unfold tupB at h
  split at h
  · rename_i t d its n sl e
    obtain ⟨h1, h2⟩ := He.ba h
    obtain ⟨h3, h4⟩ := He.ba h2
    have e1 := of_decide_eq_true h1
    have e2 := of_decide_eq_true h3
    have hs : sizeLine = 16777216 := by decide
    subst e1
    exact .inr ⟨_, its, n, e, rfl, rfl, by omega, vals_of_abs (of_decide_eq_true h4)⟩
  · cases h
end Lw
namespace Lw
open PySem PySem.Spec PyProof.Rows L2
theorem it_bf {b : Bool} {A B : Prop} (h : b = false) (x : B) : if b = true then A else B := by
  rw [h, if_neg Bool.false_ne_true]; exact x
theorem it_bt {b : Bool} {A B : Prop} (h : b = true) (x : A) : if b = true then A else B := by
  rw [h, if_pos rfl]; exact x
theorem str_mem {z : Str} {ts : List Str} {A B : Prop} (h1 : z ∈ ts → A) (h2 : z ∉ ts → B) : if inV (.str z) (ts.map V.str) = true then A else B := by
  rw [inV_str]
  by_cases h : z ∈ ts
  · rw [decide_eq_true h, if_pos rfl]; exact h1 h
  · rw [decide_eq_false h, if_neg Bool.false_ne_true]; exact h2 h
theorem kb_rel {K : PySem.W.Frag} {x qual : Str} {params : Arguments} {body : List Stmt} {scope : Scope} {kws : List (Str × V)} {f : Addr} {fd : FuncData} {ps ks : List Str} {g : List Value → List Value} {gV : List V → List V} (F : FunD K x qual params body scope [] kws f fd) (hr : ∀ {zs us}, Vals zs us → Vals (gV zs) (g us))
    (h : ∀ (kV doc pm : Value) (an : Option Addr) (cdv ct : Value) (ws : List Value), ws.length = ks.length → bindArgs (PySem.W.fnOf x qual params body scope .none kV doc pm an cdv ct) ⟨[], ks.zip ws⟩ = pure (ps.zip (g ws))) : KBn K fd ps 0 ks (fun _ ws => g ws) (fun _ zs => gV zs) := by
  obtain ⟨oc, od, dV, kV, doc, pm, an, cdv, ct, osl, rfl, lk, hcd, hD, hK⟩ := F.ex
  rcases hD with ⟨_, rfl⟩ | ⟨e, _⟩
  · exact ⟨fun s us ws _ l1 l2 => by
      obtain rfl : us = [] := List.length_eq_zero_iff.mp l1
      exact .of_eq (h kV doc pm an cdv ct ws l2), fun _ r => hr r⟩
  · exact absurd rfl e
theorem pass0S {X : Cx} : ∀ σ : L2.St, PassesAt CX0 X σ ((fun _ => E0 : L2.St → XK) σ) := fun _ _ _ _ _ _ _ h => h.elim
theorem same_at {H G : Hp} {D : Addr} {o : HO} (n : H D = none) (s : Same H G) : Same H (upd G D o) := fun b u h => by
  rw [upd_ne (ne_of_none h n)]
  exact s b u h
theorem g_name {i : Nat} {v : V} {σ : L2.St} {H : Hp} {Q : L2.St → Hp → Prop} (h : Q (σ.set i (some v)) H) : gName i v σ H Q := h
theorem vals_rev : ∀ {vs : List V} {us : List Value}, Vals vs us → Vals vs.reverse us.reverse
  | _, _, .nil => .nil
  | _, _, .cons h r => by
    rw [List.reverse_cons, List.reverse_cons]
    exact Vals.append (vals_rev r) (.cons h .nil)
end Lw
namespace Lw
open PySem PySem.Spec PyProof.Rows L2
theorem cutV_ints (ns : List Int) (lo hi : Option Int) : ∃ ms : List Int, cutV (ns.map V.int) lo hi = ms.map V.int ∧ ms.length ≤ ns.length := by
  unfold cutV
  refine ⟨(ns.drop (HT.sIx (ns.map V.int).length 0 lo)).take (HT.sIx (ns.map V.int).length (ns.map V.int).length hi - HT.sIx (ns.map V.int).length 0 lo), ?_, ?_⟩
  · rw [List.map_take, List.map_drop]
  · rw [List.length_take, List.length_drop]; omega
theorem none_of_same {H G : Hp} (s : Same H G) {q : Addr} (h : G q = none) : H q = none := by
  cases e : H q with
  | none => rfl
  | some o => rw [s _ _ e] at h; cases h
theorem keep_at {a : Addr} {H G : Hp} {D : Addr} {o : HO} (n : H D = none) (s : Keep a H G) : Keep a H (upd G D o) := fun b u nb h => by
  rw [upd_ne (ne_of_none h n)]
  exact s b u nb h
/-! words, several and different -/
def cand1 (w : Str) (c : Nat) : Str := sign c ++ cutS w (some 1) none
def WInv (z : Str) (ts : List Str) (j : Nat) (y : Str) : Prop := IsWord y ∧ IsWord z ∧ y.cps.toList.drop 1 = z.cps.toList.drop 1 ∧ (y ∉ ts ∨ ∀ i c, i + 1 < j → abc[i]? = some c → cand1 z c ∈ ts) ∧ (y ∉ ts ∨ j = 0 ∨ ∃ c, abc[j - 1]? = some c ∧ y = cand1 z c)
theorem cand1_tl (w : Str) (c : Nat) : (cand1 w c).cps.toList = c :: w.cps.toList.drop 1 := by
  unfold cand1
  rw [tl_app, tl_sign]
  unfold cutS
  have h1 : HT.sIx w.length 0 (some 1) = min 1 w.length := HT.sIx_nat _ _ 1
  have h2 : HT.sIx w.length w.length none = w.length := rfl
  rw [h1, h2]
  have h3 : w.length = w.cps.toList.length := len_tl w
  show [c] ++ (List.take (w.length - min 1 w.length) (List.drop (min 1 w.length) w.cps.toList)) = _
  rw [h3]
  show c :: _ = _
  congr 1
  cases w.cps.toList with
  | nil => rfl
  | cons x r =>
    have e : min 1 (x :: r).length = 1 := by simp only [List.length_cons]; omega
    rw [e]
    simp
theorem WInv.word {z y : Str} {ts : List Str} {j : Nat} (h : WInv z ts j y) : IsWord y := h.1
theorem WInv.zero {z : Str} {ts : List Str} (h : IsWord z) : WInv z ts 0 z := ⟨h, h, rfl, .inr fun i c hi => absurd hi (by omega), .inr (.inl rfl)⟩
theorem WInv.stay {z y : Str} {ts : List Str} {j : Nat} (h : WInv z ts j y) (n : y ∉ ts) : WInv z ts (j + 1) y := ⟨h.1, h.2.1, h.2.2.1, .inl n, .inl n⟩
theorem cand1_inj {w : Str} {c d : Nat} (h : cand1 w c = cand1 w d) : c = d := by
  have e : (cand1 w c).cps.toList = (cand1 w d).cps.toList := by rw [h]
  rw [cand1_tl, cand1_tl] at e
  exact (List.cons.inj e).1
theorem cand1_eq {z y : Str} (e : y.cps.toList.drop 1 = z.cps.toList.drop 1) (c : Nat) : cand1 y c = cand1 z c := by
  have h : (cand1 y c).cps.toList = (cand1 z c).cps.toList := by rw [cand1_tl, cand1_tl, e]
  have h2 : (cand1 y c).cps = (cand1 z c).cps := Array.toList_inj.mp h
  cases h3 : cand1 y c
  cases h4 : cand1 z c
  rw [h3, h4] at h2
  cases h2
  rfl
theorem WInv.step {z y : Str} {ts : List Str} {j c : Nat} (h : WInv z ts j y) (hin : y ∈ ts) (hc : abc[j]? = some c) : WInv z ts (j + 1) (cand1 y c) := by
  obtain ⟨h1, h2, h3, h4, h5⟩ := h
  have t := cand1_tl y c
  refine ⟨?_, h2, by rw [t]; exact h3, .inr fun i d hi hd => ?_, .inr (.inr ⟨c, by simpa using hc, cand1_eq h3 c⟩)⟩
  · obtain ⟨w1, w2, w3⟩ := h1
    rw [len_tl] at w1 w2
    refine ⟨by rw [len_tl, t]; simp, ?_, fun x hx => ?_⟩
    · rw [len_tl, t, List.length_cons, List.length_drop]; omega
    · rw [t] at hx
      rcases List.mem_cons.mp hx with e | e
      · rw [e]; exact abc_le (List.mem_of_getElem? hc)
      · exact w3 x (List.mem_of_mem_drop e)
  · rcases Nat.lt_or_ge (i + 1) j with l | l
    · rcases h4 with h4 | h4
      · exact absurd hin h4
      · exact h4 i d l hd
    · have e : i = j - 1 := by omega
      rcases h5 with h5 | h5 | ⟨d2, e1, e2⟩
      · exact absurd hin h5
      · omega
      · rw [e] at hd
        rw [e1] at hd
        cases hd
        rw [← e2]
        exact hin
theorem WInv.done {z y : Str} {ts : List Str} (h : WInv z ts 26 y) (l : ts.length ≤ 24) : y ∉ ts := by
  obtain ⟨_, _, _, h4, _⟩ := h
  rcases h4 with h4 | h4
  · exact h4
  exfalso
  have hm : ∀ x ∈ (abc.take 25).map (cand1 z), x ∈ ts := fun x hx => by
    obtain ⟨c, hc, rfl⟩ := List.mem_map.mp hx
    obtain ⟨i, hi, e⟩ := List.mem_take_iff_getElem.mp hc
    refine h4 i c (by omega) ?_
    rw [← e]
    exact List.getElem?_eq_getElem _
  have nd : ((abc.take 25).map (cand1 z)).Nodup := by
    have h0 : (abc.take 25).Nodup := by decide
    exact List.Pairwise.map _ (fun a b ne q => ne (cand1_inj q)) h0
  have := nodup_le nd hm
  rw [List.length_map] at this
  have : (abc.take 25).length = 25 := rfl
  omega
def spWord2 (K : PySem.W.Frag) : Sp := fun vs H Q _ => ∃ (a b : Addr) (n : Nat) (ts : List Str), vs = [.ref a, .ref b] ∧ Src H a n ∧ n ≤ 900000000 ∧ b ≠ a ∧ SqL K H b (ts.map V.str) ∧ ts.length ≤ 24 ∧
  ∀ H' w, Keep a H H' → Src H' a (n + 10) → IsWord w → w ∉ ts → Q (.str w) H'
def GoodWs (ws ts : List Str) : Prop := ws.Nodup ∧ ∀ z ∈ ws, IsWord z ∧ z ∉ ts
theorem GoodWs.nil {ts : List Str} : GoodWs [] ts := ⟨List.nodup_nil, fun _ h => (List.not_mem_nil h).elim⟩
theorem GoodWs.snoc {ws ts : List Str} {z : Str} (h : GoodWs ws ts) (hz : IsWord z) (n : z ∉ ts ++ ws) : GoodWs (ws ++ [z]) ts := by
  have n1 : z ∉ ts := fun m => n (List.mem_append_left _ m)
  have n2 : z ∉ ws := fun m => n (List.mem_append_right _ m)
  refine ⟨List.nodup_append.mpr ⟨h.1, by simp, fun x hx y hy => ?_⟩, fun x hx => ?_⟩
  · rw [List.mem_singleton.mp hy]
    exact fun e => n2 (e ▸ hx)
  · rcases List.mem_append.mp hx with m | m
    · exact h.2 x m
    · rw [List.mem_singleton.mp m]; exact ⟨hz, n1⟩
def spWords (K : PySem.W.Frag) : Sp := fun vs H Q _ => ∃ (a b : Addr) (n : Nat) (m : Int) (ts : List Str), vs = [.ref a, .int m, .ref b] ∧ Src H a n ∧ n ≤ 800000000 ∧ b ≠ a ∧ H b = some (.lst (ts.map V.str)) ∧ ts.length ≤ 10 ∧ (0 ≤ m ∧ m ≤ 8) ∧
  ∀ l H' ws, H l = none → Keep a H H' → Src H' a (n + 80) → H' l = some (.lst (ws.map V.str)) → ws.length = m.toNat → GoodWs ws ts → Q (.ref l) H'
def spNumL : Sp := fun vs H Q _ => ∃ (a : Addr) (n : Nat) (m : Int), vs = [.ref a, .int m] ∧ Src H a n ∧ n ≤ 900000000 ∧ 0 < m ∧ m.natAbs < 2 ^ 198 ∧
  ∀ H' i, Keep a H H' → Src H' a (n + 2) → Q (.int i) H'
structure TxtQ (mg : Str → Option Value) : Prop where
  isi : mg "isinstance" = none
  int : mg "int" = none
  bool : mg "bool" = none
  list : mg "list" = none
  dict : mg "dict" = none
end Lw

set_option Elab.async false
set_option linter.all false
set_option maxRecDepth 100000
set_option maxHeartbeats 1000000
namespace St
open PySem PySem.Spec PyProof.Rows L2
/-! sets of keys of any kind, whose table can be walked -/
section
variable {κ : Type} [DecidableEq κ] {P : Program} {w : World}
def OneEach (knd : KeyKind P w κ) (l : List (Int × Value)) : Prop := l.Pairwise fun x y => ∀ k, knd.is k x.2 = true → knd.is k y.2 = true → False
def Laid (w : World) (tb : SetTable) : Prop := Ris tb.place.toList ∧ (w.params.followText "set-order" = true ∨ tb.led = true)
/-- what stands in a set's table -/
structure Tbl (knd : KeyKind P w κ) (S : κ → Bool) (xs : Array (Int × Value)) (tb : SetTable) : Prop where
  el : ElemsOf knd xs.toList
  one : OneEach knd xs.toList
  mem : ∀ k, S k = true ↔ ∃ e ∈ xs.toList, knd.is k e.2 = true
  low : xs.size < scanBound
  fit : tb.fits xs.size = true
  lay : Laid w tb
def SetS (knd : KeyKind P w κ) (hp : Heap) (a : Addr) (S : κ → Bool) (n : Nat) : Prop := ∃ ob xs np tb, hp.get? a = some ob ∧ ob.ExactSet ∧ ob.data = .set xs np tb ∧ xs.size = n ∧ Tbl knd S xs tb
theorem SetS.stay {knd : KeyKind P w κ} {hp hq : Heap} {a : Addr} {S : κ → Bool} {n : Nat} (Y : SetS knd hp a S n) (k : ∀ u, hp.get? a = some u → hq.get? a = some u) : SetS knd hq a S n := by
  obtain ⟨ob, xs, np, tb, y1, y2⟩ := Y
  exact ⟨ob, xs, np, tb, k _ y1, y2⟩
theorem SetS.of {knd : KeyKind P w κ} {hp : Heap} {a : Addr} {S : κ → Bool} {n : Nat} (Y : SetS knd hp a S n) : hp.SetOf knd a S n := by
  obtain ⟨ob, xs, np, tb, y1, y2, y3, y4, T⟩ := Y
  exact ⟨ob, xs, np, tb, y1, y2, y3, T.el, T.mem, T.low, T.fit, y4⟩
theorem OneEach.perm {knd : KeyKind P w κ} {l m : List (Int × Value)} (p : l.Perm m) (h : OneEach knd l) : OneEach knd m :=
  (p.pairwise_iff fun q k u v => q k v u).mp h
/-- the same entries in another table -/
theorem Tbl.turn {knd : KeyKind P w κ} {S : κ → Bool} {xs ys : Array (Int × Value)} {tb tc : SetTable} (T : Tbl knd S xs tb) (p : ys.toList.Perm xs.toList) (f : tc.fits ys.size = true) (l : Laid w tc) : Tbl knd S ys tc where
  el := fun e m => T.el e (p.mem_iff.mp m)
  one := T.one.perm p.symm
  mem := fun k => (T.mem k).trans ⟨fun ⟨e, m, q⟩ => ⟨e, p.mem_iff.mpr m, q⟩, fun ⟨e, m, q⟩ => ⟨e, p.mem_iff.mp m, q⟩⟩
  low := by
    have e : ys.size = xs.size := by rw [← Array.length_toList, ← Array.length_toList]; exact p.length_eq
    rw [e]
    exact T.low
  fit := f
  lay := l
/-- one entry more -/
theorem Tbl.more {knd : KeyKind P w κ} {S : κ → Bool} {xs ys : Array (Int × Value)} {tb tc : SetTable} {k : κ} {v : Value} (T : Tbl knd S xs tb) (hk : knd.is k v = true) (hv : v.scannable = true) (n : S k = false) (p : ys.toList.Perm ((knd.hash k, v) :: xs.toList)) (room : xs.size + 1 < scanBound) (f : tc.fits ys.size = true) (l : Laid w tc) :
    Tbl knd (fun j => S j || decide (j = k)) ys tc := by
  have isk : ∀ j, knd.is j v = true ↔ j = k := fun j => ⟨fun q => knd.inj v j k q hk, fun q => q ▸ hk⟩
  have sz : ys.size = xs.size + 1 := by rw [← Array.length_toList, p.length_eq, List.length_cons, Array.length_toList]
  refine ⟨fun e m => ?_, OneEach.perm p.symm (List.pairwise_cons.mpr ⟨fun e m j q r => ?_, T.one⟩), fun j => ?_, by rw [sz]; exact room, f, l⟩
  · rcases List.mem_cons.mp (p.mem_iff.mp m) with rfl | m
    · exact ⟨⟨k, hk, rfl⟩, hv⟩
    · exact T.el e m
  · have e1 := (isk j).mp q
    subst e1
    have z := (T.mem j).mpr ⟨e, m, r⟩
    rw [n] at z
    cases z
  · rw [Bool.or_eq_true, decide_eq_true_eq, T.mem j]
    constructor
    · rintro (⟨e, m, q⟩ | q)
      · exact ⟨e, p.mem_iff.mpr (List.mem_cons_of_mem _ m), q⟩
      · exact ⟨_, p.mem_iff.mpr List.mem_cons_self, (isk j).mpr q⟩
    · rintro ⟨e, m, q⟩
      rcases List.mem_cons.mp (p.mem_iff.mp m) with rfl | m
      · exact .inr ((isk j).mp q)
      · exact .inl ⟨e, m, q⟩
end
end St

set_option Elab.async false
set_option linter.all false
set_option maxRecDepth 100000
set_option maxHeartbeats 2000000
namespace St
open PySem PySem.Spec PyProof.Rows L2
/-! set.add, of a key of any kind -/
section
variable {κ : Type} [DecidableEq κ] {P : Program} {w : World} {A : Around} {Ex : Value → Shared → Prop} {s : Shared} {a : Addr} {knd : KeyKind P w κ}
theorem stored {hp : Heap} {ob : Obj} {xs ys : Array (Int × Value)} {np : Nat} {tb tc : SetTable} (e1 : hp.get? a = some ob) (e2 : ob.data = .set xs np tb) : (hp.update a (Obj.putSet ys tc)).get? a = some { ob with data := .set ys (np + 1) tc } := store_at e1 e2
/-- the entries are stored, and perhaps laid anew in a greater table -/
theorem put_tail {gave : Bool → Sem Unit} (hg : ∀ (b : Bool) (q : Shared) (R : Unit → Shared → Prop), R () q → wpAny (model P w) A (gave b) R Ex q) {ob : Obj} {xs ys : Array (Int × Value)} {np : Nat} {tb tc : SetTable} {S : κ → Bool} (e1 : s.heap.get? a = some ob) (ex : ob.ExactSet) (e2 : ob.data = .set xs np tb)
    (T : Tbl knd S ys tc) {was : Bool} {R : Option Bool → Shared → Prop} (hR : ∀ hq, Heap.SameBut a s.heap hq → SetS knd hq a S ys.size → R (some true) { s with heap := hq }) :
    wpAny (model P w) A (do
        storeSet a ys tc
        if (!was && tc.tooFull) = true then do
            gave (relayAll tc ys (SetTable.grown ys.size)).2.2
            storeSet a (relayAll tc ys (SetTable.grown ys.size)).1 (relayAll tc ys (SetTable.grown ys.size)).2.1
            pure (some true)
          else pure (some true)) R Ex s := by
  have f1 := stored (ys := ys) (tc := tc) e1 e2
  have b1 := Heap.SameBut.update s.heap a (Obj.putSet ys tc)
  refine wpAny_bind (wpAny_storeSet_of e1 e2 ?_ (fits_of_scanBound T.low))
  split
  · have p := relayAll_perm tc ys (SetTable.grown ys.size)
    have f := relayAll_fits tc ys (SetTable.grown ys.size)
    have r := relayAll_ris tc ys (SetTable.grown ys.size)
    have l := relayAll_led tc ys (SetTable.grown ys.size)
    generalize relayAll tc ys (SetTable.grown ys.size) = Z at p f r l ⊢
    obtain ⟨zs, td, gv⟩ := Z
    dsimp only at p f r l ⊢
    have sz : zs.size = ys.size := by rw [← Array.length_toList, ← Array.length_toList]; exact p.length_eq
    have T2 : Tbl knd S zs td := T.turn p f ⟨r, T.lay.2.imp id fun q => l.trans q⟩
    refine wpAny_bind (hg _ _ _ (wpAny_bind (wpAny_storeSet_of f1 rfl (wpAny_pure (hR _ (b1.trans (Heap.SameBut.update _ a _)) ?_)) (fits_of_scanBound T2.low))))
    exact ⟨_, zs, _, td, stored (ys := zs) (tc := td) f1 rfl, ex, rfl, sz, T2⟩
  · exact wpAny_pure (hR _ b1 ⟨_, ys, _, tc, f1, ex, rfl, rfl, T⟩)
theorem add_hashed {k : κ} {v : Value} {S : κ → Bool} {n : Nat} {Q : Bool → Shared → Prop} (Y : SetS knd s.heap a S n) (hk : knd.is k v = true) (hv : v.scannable = true) (room : n + 1 < scanBound)
    (hQ : ∀ hq, Heap.SameBut a s.heap hq → SetS knd hq a (fun j => S j || decide (j = k)) (if S k = true then n else n + 1) → Q (!S k) { s with heap := hq }) : wpAny (model P w) A (setAddHashed a v (knd.hash k)) Q Ex s := by
  obtain ⟨ob, xs, np, tb, e1, ex, e2, en, T⟩ := Y
  unfold setAddHashed setAddHashedIn
  refine wpAny_holding (wpAny_bind (wpAny_setState_of e1 e2 T.fit ?_))
  dsimp only
  rw [byScan_of hv T.low T.el]
  simp only [↓reduceIte]
  unfold setAddByScan
  refine wpAny_bind (wpAny_bind (wpAny_rule (wpAny_bind (wpAny_setScan_of hk e1 e2 T.fit T.el ?_))))
  have isk : ∀ j, knd.is j v = true ↔ j = k := fun j => ⟨fun q => knd.inj v j k q hk, fun q => q ▸ hk⟩
  cases hf : List.findIdx? (fun e => knd.is k e.2) xs.toList with
  | some i =>
    obtain ⟨hi, pi, _⟩ := List.findIdx?_eq_some_iff_getElem.mp hf
    have yes : S k = true := (T.mem k).mpr ⟨xs.toList[i], List.getElem_mem hi, pi⟩
    have q := hQ s.heap (Heap.SameBut.refl a s.heap)
    rw [if_pos yes, yes] at q
    refine wpAny_pure (wpAny_pure (q ⟨ob, xs, np, tb, e1, ex, e2, en, T.el, T.one, fun j => ?_, T.low, T.fit, T.lay⟩))
    rw [Bool.or_eq_true, decide_eq_true_eq, ← T.mem j]
    exact ⟨fun z => z.elim id fun z => z ▸ yes, .inl⟩
  | none =>
    have no : S k = false := by
      cases z : S k with
      | false => rfl
      | true =>
        obtain ⟨e, m, q⟩ := (T.mem k).mp z
        have c := List.findIdx?_eq_none_iff.mp hf e m
        rw [q] at c
        cases c
    have gaveWay : ∀ (b : Bool) {q : Shared} {R : Unit → Shared → Prop}, R () q → wpAny (model P w) A (match b with | true => rule "set.scan.the-table-gave-way" | false => pure ()) R Ex q := fun b q R z => by
      cases b
      · exact wpAny_pure z
      · exact wpAny_rule z
    dsimp only
    have p := layNew_perm tb xs (knd.hash k) v
    have f := layNew_fits tb xs (knd.hash k) v
    have r := layNew_ris tb xs (knd.hash k) v T.lay.1
    have l := layNew_led tb xs (knd.hash k) v
    generalize layNew tb xs (knd.hash k) v = Z at p f r l ⊢
    obtain ⟨ys, tc, was, gv⟩ := Z
    dsimp only at p f r l ⊢
    rw [Array.toList_push] at p
    have pc := p.trans (List.perm_append_singleton (knd.hash k, v) xs.toList)
    have sz : ys.size = n + 1 := by rw [← Array.length_toList, pc.length_eq, List.length_cons, Array.length_toList, en]
    have more : ∀ td : SetTable, td.fits ys.size = true → Laid w td → Tbl knd (fun j => S j || decide (j = k)) ys td := fun td hf' hl' => T.more hk hv no pc (by omega) hf' hl'
    have lay : Laid w tc := ⟨r, T.lay.2.imp id fun q => l.trans q⟩
    have fin : ∀ hq, Heap.SameBut a s.heap hq → SetS knd hq a (fun j => S j || decide (j = k)) ys.size → Q true { s with heap := hq } := fun hq b Y => by
      have q := hQ hq b
      rw [no] at q
      rw [sz] at Y
      exact q Y
    refine wpAny_bind (gaveWay _ ?_)
    split
    · rw [hashByValue_scannable 8 hv]
      refine wpAny_bind (wpAny_pure (put_tail ?_ e1 ex e2 (more _ ?_ ?_) fun hq b Y => ?_))
      · intro b q R z
        cases b
        · exact wpAny_pure z
        · exact wpAny_rule z
      · first
          | exact f
          | (split <;> first | exact f | exact SetTable.fits_plain_off f)
      · first
          | exact lay
          | (split <;> exact lay)
      · dsimp only
        exact wpAny_pure (fin hq b Y)
    · refine wpAny_bind (wpAny_pure ?_)
      try simp only [↓reduceIte]
      refine put_tail ?_ e1 ex e2 (more tc f lay) fun hq b Y => ?_
      · intro b q R z
        cases b
        · exact wpAny_pure z
        · exact wpAny_rule z
      · dsimp only
        exact wpAny_pure (fin hq b Y)
end
end St

set_option Elab.async false
set_option linter.all false
set_option maxRecDepth 100000
set_option maxHeartbeats 2000000
namespace St
open PySem PySem.Spec PyProof.Rows L2
/-! such sets, tracked -/
section
variable {κ : Type} [DecidableEq κ] {P : Program} {w : World}
def KO (knd : KeyKind P w κ) (a : Addr) (S : κ → Bool) (n : Nat) : HO := .ext fun hp => SetS knd hp a S n
theorem ko_ok {knd : KeyKind P w κ} {H : Hp} {hp : Heap} {a : Addr} {S : κ → Bool} {n : Nat} (Y : SetS knd hp a S n) : ObjOk P w H hp a (KO knd a S n) :=
  ⟨Y, let ⟨ob, _, _, _, e, _⟩ := Y; ⟨ob, e⟩, fun _ _ y k => SetS.stay y k⟩
theorem empty_set {knd : KeyKind P w κ} {hp : Heap} : SetS knd (hp.push { cls := .type "set", dict := none, data := .set #[] 0 (.fresh 0 0 (!w.params.followText "set-order")) }) hp.objs.size (fun _ => false) 0 := by
  refine ⟨_, #[], 0, _, Heap.get?_push_size _ rfl, ⟨rfl, rfl, rfl⟩, rfl, rfl, ?_, ?_, ?_, by decide, by rfl, List.Pairwise.nil, ?_⟩
  · intro e m
    simp at m
  · exact List.Pairwise.nil
  · intro k
    simp
  · show _ ∨ (!w.params.followText "set-order") = true
    cases w.params.followText "set-order" <;> simp
end
section
variable {X : Cx} {pins : List (Addr × Obj)} {σ : L2.St} {H : Hp} {s : Shared} {κ : Type} [DecidableEq κ] {knd : KeyKind X.prog X.w κ}
theorem ko_at {a : Addr} {S : κ → Bool} {n : Nat} (I : Inv X pins σ H s) (h : H a = some (KO knd a S n)) : SetS knd s.heap a S n := (I.hok a _ h).1
/-- D.add(v) -/
theorem add_ok {E : Value → Shared → Prop} {D : Addr} {S : κ → Bool} {n : Nat} {k : κ} {v : Value} {Q : Value → Shared → Prop} (I : Inv X pins σ H s) (h : H D = some (KO knd D S n)) (hk : knd.is k v = true) (hv : v.scannable = true) (room : n + 1 < scanBound)
    (q : ∀ s', Inv X pins σ (upd H D (KO knd D (fun j => S j || decide (j = k)) (if S k = true then n else n + 1))) s' → Q .none s') : wpAny (model X.prog X.w) X.A (call (.builtin "set.add") [.ref D, v]) Q E s := by
  have Y := ko_at I h
  refine wpAny_call_entry F.slot_set_add (Y.of).typeIs F.entry_set_add ?_ (F.args_set_add_2 _ _)
  unfold Builtin.«set.add»
  unfold Builtin.Frozenset.oneOther Builtin.Frozenset.addrOf
  simp only [List.isEmpty_nil, bind_assoc]
  unfold setAdd
  refine wpAny_bind (wpAny_pure ?_); try dsimp only
  refine wpAny_bind (wpAny_pure (wpAny_bind (wpAny_holding (wpAny_bind (knd.pyHash hk ?_)))))
  refine add_hashed (s := { s with toks := s.toks + 1 }) Y hk hv room fun hq b Z => ?_
  refine wpAny_pure ⟨_, rfl, q _ (I.write (e := D) (t' := s.toks + 1) (by rw [h]; trivial) (.inl rfl) (fun c u nc e => (b.2 c nc).trans e) ?_ (ko_ok Z))⟩
  obtain ⟨ob, _, _, _, e, _⟩ := Z
  exact ⟨ob, e⟩
end
end St

set_option Elab.async false
set_option linter.all false
set_option maxRecDepth 100000
set_option maxHeartbeats 2000000
namespace St
open PySem PySem.Spec PyProof.Rows L2 PpSet
/-! set comprehensions of ints and texts -/
abbrev KS (P : Program) (w : World) (D : Addr) (S : Key → Bool) (n : Nat) : HO := KO (mixKind P w) D S n
abbrev Ks0 (P : Program) (w : World) (G : Hp) (D : Addr) : Hp := upd G D (KS P w D (fun _ => false) 0)
/-- one more key in D -/
def tAdd (P : Program) (w : World) (D : Addr) (Nx : Hp → Prop) : VK := fun y G => ∃ (k : Key) (S : Key → Bool) (n : Nat), y = kV k ∧ G D = some (KS P w D S n) ∧ n + 1 < scanBound ∧ Nx (upd G D (KS P w D (fun j => S j || decide (j = k)) (if S k = true then n else n + 1)))
/-- one turn -/
def tTurn (P : Program) (w : World) (g : TG) (tt : TT) (te : TE) (vs : List Nat) (D : Addr) (σ : L2.St) (Nx : Hp → Prop) (x : V) (G : Hp) : Prop :=
  g x (wipe σ vs) G fun τ G2 => wipe τ vs = wipe σ vs ∧ tt τ G2 fun b G3 => if b = true then te τ G3 (tAdd P w D Nx) else Nx G3
/-- all turns -/
def Turns (J : It) (turn : (Hp → Prop) → V → Hp → Prop) (fin : Hp → Prop) (G0 : Hp) : Prop :=
  ∃ W : Nat → Nat → Hp → Prop, (∃ m, W 0 m G0) ∧ ∀ i m G, W i m G → (J.stop i G ∧ fin G) ∨ (J.go i G ∧ ∃ Nx : Hp → Prop, (∀ G', Nx G' → ∃ k, k < m ∧ W (i + 1) k G') ∧ ∀ x G', J.yld i G x G' → turn Nx x G')
def tSk (P : Program) (w : World) (wi : TI) (g : TG) (tt : TT) (te : TE) (vs : List Nat) : TE := fun σ H Q => wi σ H fun J G => ∀ D, G D = none → Turns J (tTurn P w g tt te vs D σ) (fun F => Q (.ref D) F) (Ks0 P w G D)
section
variable {X : Cx}
abbrev InBlk (X : Cx) (scope : Scope) (Pr : Cx → Prop) : Prop := ∀ (s : Shared) (H : Hp) (C : Addr) (cl : List (PySem.Str × Addr)) (fp : List Addr), Pr (X.blk s H scope (compEnvC scope cl C X.env) fp)
/-- the loop, once the block stands -/
theorem sk_loop {elt tg iter : Expr} {ifs : List Expr} {scope : Scope} {pos : Pos} {g : TG} {tt : TT} {te : TE} {σ : L2.St} {vs : List Nat} {s0 : Shared} {H0 G0 : Hp} {ce : Env} {D it : Addr} {fp : List Addr} {J : It} {tn : Nat → Heap → Prop} {R : Result → Shared → Prop} {fin : Hp → Prop} {t : Shared}
    (hc : X.calm = true) (pg : PG (X.blk s0 H0 scope ce fp) tg g) (pt : PTs (X.blk s0 H0 scope ce fp) ifs tt) (pe : PE (X.blk s0 H0 scope ce fp) elt te) (T : Turn X.prog X.w X.K tg J fp it tn)
    (I0 : Inv (X.blk s0 H0 scope ce fp) [] (wipe σ vs) G0 t) (t0 : tn 0 t.heap) (n0 : ∀ b ∈ fp, G0 b = none) (h : Turns J (tTurn X.prog X.w g tt te vs D σ) fin G0)
    (hend : ∀ G t', Inv (X.blk s0 H0 scope ce fp) [] (wipe σ vs) G t' → fin G → R (.ok .next) t') :
    codeAny (model X.prog X.w) X.A (.compLoop (.SetComp elt [⟨tg, iter, ifs, 0⟩] scope pos) 0 (.ref it) (.ref D) ce) R t := by
  obtain ⟨W, ⟨m0, w0⟩, turn⟩ := h
  have fpo : ∀ {τ : L2.St} {G : Hp} {t' : Shared}, Inv (X.blk s0 H0 scope ce fp) [] τ G t' → (∀ b ∈ fp, G b = none) → ∀ b ∈ fp, FpOk (X.blk s0 H0 scope ce fp) [] G b := by
    intro τ G t' I q b hb
    refine ⟨q b hb, (I.ok.exf b hb).1, I.ok.exfs b hb, .inl hb, (I.ok.exf b hb).2, fun p hp => ?_⟩
    exact absurd (show p ∈ ([] : List (Addr × Obj)) ++ [] from hp) (List.not_mem_nil)
  apply compLoopS_any (fun k u => ∃ j G, tn j u.heap ∧ W j k G ∧ (∀ b ∈ fp, G b = none) ∧ Inv (X.blk s0 H0 scope ce fp) [] (wipe σ vs) G u) _ m0 ⟨0, G0, t0, w0, n0, I0⟩
  rintro k u ⟨j, G, tj, wj, nj, Ij⟩
  obtain ⟨stop, q⟩ | ⟨go, Nx, down, step⟩ := turn j k G wj
  · refine thnF (T.done (X.blk s0 H0 scope ce fp) rfl rfl rfl hc j [] u _ G (fun _ _ => False) Ij (fpo Ij nj) tj stop) ?_
    rintro r u1 ⟨rfl, I1⟩
    exact hend G u1 I1 q
  · refine thnF (T.item (X.blk s0 H0 scope ce fp) rfl rfl rfl hc j [] u _ G (fun _ _ => False) Ij (fpo Ij nj) tj go) ?_
    rintro r u1 ⟨v, rfl, a1⟩
    refine thnF a1 ?_
    rintro _ u2 ⟨x, G1, I1, r1, y1, tj1, nj1⟩
    have I1p := I1.pinned (fpo I1 nj1) (T.obj _ _ tj1)
    refine thnF (pg.run _ u2 _ G1 x v _ I1p r1 (step x G1 y1)) ?_
    rintro _ u3 ⟨τ, G2, I2, ew, a2⟩
    refine thnF (pt.run _ u3 τ G2 _ I2 a2) ?_
    rintro b u4 ⟨G3, I3, a3⟩
    have back : ∀ {u' : Shared} {G' : Hp}, Inv (X.blk s0 H0 scope ce fp) ([] ++ pinsAt fp u2.heap) τ G' u' → Nx G' → ∃ k', k' < k ∧ ∃ j G, tn j u'.heap ∧ W j k' G ∧ (∀ b ∈ fp, G b = none) ∧ Inv (X.blk s0 H0 scope ce fp) [] (wipe σ vs) G u' := by
      intro u' G' I' nx
      obtain ⟨k', lt, wk⟩ := down G' nx
      have pin : ∀ b ∈ fp, ∀ o, u2.heap.get? b = some o → u'.heap.get? b = some o ∧ G' b = none := by
        intro b hb o e
        have z := I'.pin (b, o) (List.mem_append_right _ (List.mem_append_right _ (mem_pinsAt hb e)))
        exact ⟨z.1, z.2.1⟩
      refine ⟨k', lt, j + 1, G', T.keep _ _ _ tj1 (fun b hb o e => (pin b hb o e).1), wk, ?_, ?_⟩
      · intro b hb
        obtain ⟨o, e, _⟩ := T.obj _ _ tj1 b hb
        exact (pin b hb o e).2
      · refine (I'.unpinned (pins := [])).weak (by rw [← ew, wipe_length]) ?_
        intro i x e
        rw [← ew] at e
        exact (wipe_some e).1
    cases b
    · exact back I3 a3
    · refine thnF (pe.run _ u4 τ G3 _ I3 a3) ?_
      rintro z u5 ⟨y, G4, I4, ry, kk, S, n, rfl, hD, room, nx⟩
      exact add_ok (X := X.blk s0 H0 scope ce fp) I4 hD (kV_is ry) (key_scan ry) room fun u6 I6 => back I6 nx
/-- {elt for tg in iter if ...} -/
theorem pe_sk {elt tg iter : Expr} {ifs : List Expr} {scope : Scope} {own : List (PySem.Str × Nat)} {pos : Pos} {wi : TI} {g : TG} {tt : TT} {te : TE} (hc : X.calm = true) (hN : X.N.Nodup) (hi : PI X tg iter wi) (ok : BlkOk X.N X.env.scope scope own)
    (hg : InBlk X scope fun Y => PG Y tg g) (ht : InBlk X scope fun Y => PTs Y ifs tt) (he : InBlk X scope fun Y => PE Y elt te) (hs : ∀ x, foldedSetIterable iter X.env x = pure x := by intro _; rfl) :
    PE X (.SetComp elt [⟨tg, iter, ifs, 0⟩] scope pos) (tSk X.prog X.w wi g tt te (own.map (·.2))) := by
  constructor
  intro pins s σ H Q I h
  rw [eval_SetComp]
  have fr : ∀ y ∈ scope.names, y.2 = .free → ∃ c, X.env.cells.lookup y.1 = some c := by
    intro y hy e
    exact I.ok.has _ (ok.free y hy e)
  refine wpAny_comprehension_free rfl hs (closure_ok fr) ok.kind (fun y hy e => by rw [ok.uniq y hy, e]) (thn (hi.run pins s σ H _ I h) fun xv s1 hx => thn hx ?_)
  rintro itv s2 ⟨it, fp, tn, J, G, rfl, I2, T, st2, f2, q⟩
  refine newSet_ok (newEnv_comp ?_)
  have D0 : G s2.heap.objs.size = none := I2.hok.fresh (Nat.le_refl _)
  have q := q _ D0
  have I3 := I2.laid (t' := s2.toks) (fun b o e => Heap.get?_push_of_some _ e) (Nat.le_refl _) (ko_ok (P := X.prog) (w := X.w) (H := upd G s2.heap.objs.size (KS X.prog X.w s2.heap.objs.size (fun _ => false) 0)) (empty_set (knd := mixKind X.prog X.w) (hp := s2.heap)))
  have young : ∀ b ∈ fp, b < s2.heap.objs.size := by
    intro b hb
    obtain ⟨o, e, _⟩ := T.obj _ _ st2 b hb
    exact Heap.lt_size e
  have grown : ∀ b o, s2.heap.get? b = some o → (s2.heap.push { cls := .type "set", dict := none, data := .set #[] 0 (.fresh 0 0 (!X.w.params.followText "set-order")) }).get? b = some o := fun b o e => Heap.get?_push_of_some _ e
  have sz3 : (s2.heap.push { cls := .type "set", dict := none, data := .set #[] 0 (.fresh 0 0 (!X.w.params.followText "set-order")) }).objs.size = s2.heap.objs.size + 1 := size_push' _ _
  have f3 : ∀ b ∈ fp, FpOk X pins (upd G s2.heap.objs.size (KS X.prog X.w s2.heap.objs.size (fun _ => false) 0)) b ∧ b < s2.heap.objs.size + 1 := by
    intro b hb
    refine ⟨⟨?_, (f2 b hb).2⟩, Nat.lt_succ_of_lt (young b hb)⟩
    rw [upd_ne (Nat.ne_of_lt (young b hb))]
    exact (f2 b hb).1
  have f3 : ∀ b ∈ fp, FpOk X pins (upd G s2.heap.objs.size (KS X.prog X.w s2.heap.objs.size (fun _ => false) 0)) b ∧ b < (s2.heap.push { cls := .type "set", dict := none, data := .set #[] 0 (.fresh 0 0 (!X.w.params.followText "set-order")) }).objs.size := by
    rw [sz3]
    exact f3
  generalize s2.heap.push { cls := .type "set", dict := none, data := .set #[] 0 (.fresh 0 0 (!X.w.params.followText "set-order")) } = h3 at I3 grown sz3 f3 ⊢
  have I4 := block_start I3 ok hN f3
  dsimp only at I4
  have t4 : tn 0 (pushCells (h3.push { cls := .type "dict", data := .dict #[] }) scope.names) := T.keep _ _ _ st2 fun b _ o e => pushCells_keeps _ _ _ _ (Heap.get?_push_of_some _ (grown b o e))
  have pg := hg { s2 with heap := h3 } (upd G s2.heap.objs.size (KS X.prog X.w s2.heap.objs.size (fun _ => false) 0)) h3.objs.size (cellsFrom (h3.objs.size + 1) scope.names (cloFrom X.env.cells scope.names [])) fp
  have pt := ht { s2 with heap := h3 } (upd G s2.heap.objs.size (KS X.prog X.w s2.heap.objs.size (fun _ => false) 0)) h3.objs.size (cellsFrom (h3.objs.size + 1) scope.names (cloFrom X.env.cells scope.names [])) fp
  have pe := he { s2 with heap := h3 } (upd G s2.heap.objs.size (KS X.prog X.w s2.heap.objs.size (fun _ => false) 0)) h3.objs.size (cellsFrom (h3.objs.size + 1) scope.names (cloFrom X.env.cells scope.names [])) fp
  have loop := sk_loop (X := X) (pos := pos) (iter := iter) (R := compPost (model X.prog X.w) X.A X.xe none (EP X pins σ Q) (.ref s2.heap.objs.size) h3.objs.size) hc pg pt pe T I4 t4 (fun b hb => (f3 b hb).1.1) q (by
    intro G9 t' I9 q9
    have I7 : Inv X pins σ G9 t' := I3.call' (ch := fp) I9.os I9.base I9.hok I9.bare fun b hb => ⟨(f3 b hb).1.2.2.2.1, (f3 b hb).1.2.1, (f3 b hb).1.2.2.2.2.1, (f3 b hb).1.2.2.2.2.2⟩
    obtain ⟨m, hn, _⟩ := I9.loc
    refine ⟨m, hn, fun h'' sb => ?_⟩
    obtain ⟨a0, a1, a2, a3, a4, a5⟩ := I3.fpOk (Nat.le_refl _) (show G9 h3.objs.size = none from I9.free)
    exact ⟨.ref _, G9, I7.turned (t' := t'.toks) (fun b o hb e => (sb.2 b hb).trans e) a0 a1 a3 a4 a5, rfl, q9⟩)
  exact codeAny_compStart_set loop (T.self X.A 0 _ _ _ t4 loop)
end
end St

set_option Elab.async false
set_option linter.all false
set_option maxRecDepth 100000
set_option maxHeartbeats 2000000
namespace St
open PySem PySem.Spec PyProof.Rows L2
/-! such a set of texts, sorted -/
section
variable {P : Program} {w : World}
theorem tx_one {S : Key → Bool} {xs : Array (Int × Value)} {tb : SetTable} (T : Tbl (mixKind P w) S xs tb) (h : ∀ k, S k = true → ∃ z : PySem.Str, k = Sum.inr z) : ∀ e ∈ xs.toList, ∃ (z : PySem.Str) (t : Tok), e.2 = Value.str z t := by
  intro e m
  obtain ⟨⟨k, q, _⟩, _⟩ := T.el e m
  obtain ⟨z, rfl⟩ := h k ((T.mem k).mpr ⟨e, m, q⟩)
  exact ⟨z, Value.isStrOf_shape q⟩
theorem tx_is {z : PySem.Str} {t : Tok} (k : Key) : (mixKind P w).is k (Value.str z t) = true ↔ k = Sum.inr z := by
  constructor
  · intro q
    exact (mixKind P w).inj _ _ _ q (kV_is (k := Sum.inr z) ⟨t, rfl⟩)
  · rintro rfl
    exact kV_is (k := Sum.inr z) ⟨t, rfl⟩
theorem tx_nodup {l : List (Int × Value)} (h : ∀ e ∈ l, ∃ (z : PySem.Str) (t : Tok), e.2 = Value.str z t) (o : OneEach (mixKind P w) l) : (l.map fun e => strOf e.2).Nodup := by
  refine List.pairwise_map.mpr (List.Pairwise.imp_of_mem (fun {x y} mx my q e => ?_) o)
  obtain ⟨z, t, ez⟩ := h x mx
  obtain ⟨z', t', ez'⟩ := h y my
  rw [ez, ez'] at e
  have e' : z = z' := e
  subst e'
  refine q (Sum.inr z) ?_ ?_
  · rw [ez]
    exact (tx_is _).mpr rfl
  · rw [ez']
    exact (tx_is _).mpr rfl
theorem tx_mem {S : Key → Bool} {xs : Array (Int × Value)} {tb : SetTable} (T : Tbl (mixKind P w) S xs tb) (h : ∀ e ∈ xs.toList, ∃ (z : PySem.Str) (t : Tok), e.2 = Value.str z t) (z : PySem.Str) : z ∈ (xs.toList.map fun e => strOf e.2) ↔ S (Sum.inr z) = true := by
  rw [T.mem, List.mem_map]
  constructor
  · rintro ⟨e, m, rfl⟩
    obtain ⟨y, t, ey⟩ := h e m
    refine ⟨e, m, ?_⟩
    rw [ey]
    exact (tx_is _).mpr rfl
  · rintro ⟨e, m, q⟩
    obtain ⟨y, t, ey⟩ := h e m
    rw [ey] at q
    have e2 := (tx_is _).mp q
    refine ⟨e, m, ?_⟩
    rw [ey]
    exact (Sum.inr.inj e2).symm
end
section
variable {X : Cx}
/-- sorted(s), s a set of fewer than 64 texts -/
def rSortS (P : Program) (w : World) : List V → Hp → VK → Prop := fun xs H Q => ∃ (a : Addr) (S : Key → Bool) (n : Nat), xs = [V.ref a] ∧ H a = some (KS P w a S n) ∧ n < 64 ∧ (∀ k, S k = true → ∃ z : PySem.Str, k = Sum.inr z) ∧
  ∀ ys p, H p = none → sortedS ys = true → ys.Nodup → (∀ z, z ∈ ys ↔ S (Sum.inr z) = true) → ys.length = n → Q (.ref p) (upd H p (.lst (ys.map V.str)))
theorem cr_sortS (hc : X.calm = true) : CallR X (.builtin "sorted") (rSortS X.prog X.w) := by
  rintro pins s σ H xs us Q I r ⟨a, S, n, rfl, ha, few, tx, q⟩
  obtain ⟨u, rfl, rx⟩ := vals1 r
  cases rx
  obtain ⟨ob, es, np, tb, e1, ex, e2, en, T⟩ := ko_at I ha
  have one := tx_one T tx
  have nd := tx_nodup one T.one
  have mm := tx_mem T one
  refine Calls.call_function_entry kind_sorted plain_sorted entry_sorted (args_sorted1 _) ?_
  unfold Builtin.«sorted»
  refine wpAny_bind (m := checkCount "sorted" 1 1 _) (wpAny_pure (wpAny_bind (collect_set (A := X.A.in1) (I.ok.hd hc) ⟨ob, e1, ex.1, e2⟩ T.fit T.low T.lay.1 T.lay.2 fun s1 vs k1 hz g1 o1 pm => ?_)))
  have lv : vs.length = n := by rw [pm.length_eq, List.length_map, Array.length_toList, en]
  have hS : StrsAre vs (vs.map strOf) := strsAre_map vs fun v hv => by
    obtain ⟨e, m, rfl⟩ := List.mem_map.mp (pm.mem_iff.mp hv)
    exact one e m
  have pk : (vs.map strOf).Perm (es.toList.map fun e => strOf e.2) := by
    have z := pm.map strOf
    rw [List.map_map] at z
    exact z
  refine wpAny_bind (wpAny_newList ?_ (by rw [lv, sizeLine_eq]; omega))
  have new : (s1.heap.push (seqObj "list" vs.toArray 0)).get? s1.heap.objs.size = some (seqObj "list" vs.toArray 0) := Heap.get?_push_size _ rfl
  refine wpAny_bind (wpAny_holding (wpAny_call_entry slot_list_sort ⟨_, new, rfl⟩ entry_list_sort (list_sort_treeK strKind_oneLt new hS.keysOf (fun v₁ v₂ rest e => keyKind_strs (by rw [← e]; exact hS)) (by rw [lv]; exact few) fun st' hp hs => ⟨_, rfl, ?_⟩) (args_list_sort _)))
  obtain ⟨ys, g1', g2, g3⟩ := sorted_out_str hS hp hs
  obtain ⟨c, hc'⟩ := sortedHeap_at (vs := vs) (out := (arrOf st').map (·.2)) new
  have py := g2.trans pk
  have ly : ys.length = n := by rw [g2.length_eq, List.length_map, lv]
  have I1 : Inv X pins σ H s1 := I.call' (ch := []) o1 (Un.kept k1) (I.hok.kept k1) (by rw [g1]; exact I.bare) (fun _ z => nomatch z)
  refine wpAny_pure ⟨_, rfl, .ref s1.heap.objs.size, upd H s1.heap.objs.size (.lst (ys.map V.str)), I1.laid (t' := s1.toks) (fun b u e => ?_) (Nat.le_refl _) ⟨?_, ((arrOf st').map (·.2)).toList, c, vals_of_strs g1', ?_⟩, rfl, q ys _ (I1.hok.fresh (Nat.le_refl _)) g3 (py.nodup_iff.mpr nd) (fun z => by rw [py.mem_iff, mm]) ly⟩
  · have lt := Heap.lt_size e
    rw [sortedHeap_old (Nat.ne_of_lt lt) (by rw [size_push']; exact Nat.lt_succ_of_lt lt)]
    exact Heap.get?_push_of_some _ e
  · rw [List.length_map, ly, sizeLine_eq]
    omega
  · rw [Array.toArray_toList]
    exact hc'
end
end St

set_option Elab.async false
set_option linter.all false
set_option maxRecDepth 100000
set_option maxHeartbeats 2000000
namespace St
open PySem PySem.Spec PyProof.Rows L2
/-! a comprehension, turn by turn, over whatever is walked -/
theorem turns_of {J : It} {n : Nat} {G : Hp → Prop} {Y : Nat → Hp → V → Hp → Prop} (wk : Walk J n G Y) {turn : (Hp → Prop) → V → Hp → Prop} {fin : Hp → Prop} {G0 : Hp} (Pv : Nat → Hp → Prop) (h0 : Pv 0 G0) (hG : ∀ i A, i ≤ n → Pv i A → G A)
    (hs : ∀ i x A B, i < n → Pv i A → Y i A x B → turn (Pv (i + 1)) x B) (hd : ∀ A, Pv n A → fin A) : Turns J turn fin G0 := by
  refine ⟨fun i m A => (m = n - i ∧ i ≤ n) ∧ Pv i A, ⟨n, ⟨rfl, Nat.zero_le n⟩, h0⟩, ?_⟩
  rintro i m A ⟨⟨rfl, hi⟩, p⟩
  have g := hG i A hi p
  rcases Nat.lt_or_ge i n with lt | ge
  · refine .inr ⟨wk.goes i A lt g, Pv (i + 1), fun B q => ⟨n - (i + 1), by omega, ⟨rfl, lt⟩, q⟩, fun x B y => ?_⟩
    exact hs i x A B lt p (wk.yields i A x B lt g y)
  · obtain rfl : i = n := Nat.le_antisymm hi ge
    exact .inl ⟨wk.stops A g, hd A p⟩
section
variable {X : Cx}
theorem dc_by {J : It} {n : Nat} {G : Hp → Prop} {Y : Nat → Hp → V → Hp → Prop} {g : TG} {tt : TT} {tk tv : TE} {vs : List Nat} {σ : L2.St} {G0 : Hp} {D : Addr} {fin : Hp → Prop} (wk : Walk J n G Y) (Pv : Nat → Hp → Prop) (h0 : Pv 0 G0) (hG : ∀ i A, i ≤ n → Pv i A → G A)
    (hs : ∀ i x A B, i < n → Pv i A → Y i A x B → g x (wipe σ vs) B fun σ2 H2 => wipe σ2 vs = wipe σ vs ∧ tt σ2 H2 fun b H3 =>
      if b = true then tk σ2 H3 fun y H4 => tv σ2 H4 fun z H5 => ∃ kvs k, y = kV k ∧ H5 D = some (.dK kvs) ∧ kvs.length < sizeLine ∧ Pv (i + 1) (upd H5 D (.dK (putK kvs k z))) else Pv (i + 1) H3) (hd : ∀ A, Pv n A → fin A) :
    ∃ W : Nat → Nat → Hp → Prop, (∃ m, W 0 m G0) ∧ ∀ i m H, W i m H → (J.stop i H ∧ fin H) ∨ (J.go i H ∧ ∃ Nx : Hp → Prop, (∀ H', Nx H' → ∃ m', m' < m ∧ W (i + 1) m' H') ∧ ∀ x H', J.yld i H x H' → g x (wipe σ vs) H' fun σ2 H2 => wipe σ2 vs = wipe σ vs ∧ tt σ2 H2 fun b H3 =>
      if b = true then tk σ2 H3 fun y H4 => tv σ2 H4 fun z H5 => ∃ kvs k, y = kV k ∧ H5 D = some (.dK kvs) ∧ kvs.length < sizeLine ∧ Nx (upd H5 D (.dK (putK kvs k z))) else Nx H3) :=
  turns_of wk (turn := fun Nx x H' => g x (wipe σ vs) H' fun σ2 H2 => wipe σ2 vs = wipe σ vs ∧ tt σ2 H2 fun b H3 =>
      if b = true then tk σ2 H3 fun y H4 => tv σ2 H4 fun z H5 => ∃ kvs k, y = kV k ∧ H5 D = some (.dK kvs) ∧ kvs.length < sizeLine ∧ Nx (upd H5 D (.dK (putK kvs k z))) else Nx H3) Pv h0 hG hs hd
end
end St

set_option Elab.async false
set_option linter.all false
set_option maxRecDepth 100000
set_option maxHeartbeats 4000000
namespace Lw
open PySem PySem.Spec PyProof.Rows L2
abbrev sMent : Stmt := inClass (top 37) 12
section
variable {P : Program} {w : World} {K : PySem.W.Frag} {mg : Str → Option Value} {base : Heap}
/-! the names that a filter mentions -/
structure MetF (P : Program) (w : World) (K : PySem.W.Frag) (mg : Str → Option Value) (base : Heap) (C : Addr) (m : Str) (k : Nat) (ps : List Str) (sp : Sp) : Prop where
  ex : ∃ f fd, Meth K C m f ∧ FnOk P w K mg base CX0 k f fd ps sp ∧ Binds K fd ps []
def spMent (CF : Addr) : Sp := fun vs H Q _ => ∃ (p : Addr) (tms : List Tm), vs = [.ref p] ∧ Fi CF H p tms ∧ tms.length < 60 ∧
  ∀ ys q G, Same H G → G q = some (.lst (ys.map V.str)) → sortedS ys = true → ys.Nodup → (∀ z, z ∈ ys ↔ ∃ m ∈ tms, m.name = some z) → ys.length ≤ tms.length → Q (.ref q) G
abbrev nMent : List Str := ["self", "_", "name"]
theorem scMent : FnScope nMent ["self"] (defScope sMent) := ⟨rfl, rfl, rfl, by decide +kernel, rfl, by decide +kernel, by decide +kernel⟩
theorem tm_vs (m : Tm) : ∃ (a b : V), m.vs = [a, (match m.name with | some z => .str z | none => .non), b] := by
  cases m <;> exact ⟨_, _, rfl⟩
theorem ok_ment {CF f : Addr} {fd : FuncData} (F : MethD K "mentions" "Filter.mentions" sMent f fd) (T : TxtF K mg CF) (hs : mg "sorted" = none) : FnOk P w K mg base CX0 1 f fd ["self"] (spMent CF) := by
  refine F.ok scMent (fun vs H Q E h => ?_) (fun cdv A outer s0 H vs Q E hr h => ?_)
  · obtain ⟨p, tms, rfl, _⟩ := h
    rfl
  · obtain ⟨p, tms, rfl, ⟨dx, t, xs, hp, ht, hm⟩, hl, k⟩ := h
    have nd := scMent.nd
    refine ⟨_, PSs.nox (pss_one (ps_ret (pe_callB (St.cr_sortS rfl) (by rfl) hs (by decide +kernel) (pa_cons (St.pe_sk (own := [("_", 1), ("name", 2)]) (g := gTup K 3 (gCons (gName 1) (gCons (gName 2) (gCons (gName 1) gNil)))) rfl nd (pi_tup (pe_fld (pv 0) (by rfl))) (blkOk_by (N := nMent) (sc := defScope sMent) (by decide +kernel))
      (fun _ _ _ _ _ => pg_tup (by rfl) (pgs_cons (pg_name (i := 1) nd rfl (Or.inl rfl)) (pgs_cons (pg_name (i := 2) nd rfl (Or.inl rfl)) (pgs_cons (pg_name (i := 1) nd rfl (Or.inl rfl)) pgs_nil)))) (fun _ _ _ _ _ => pts_one (pt_cmpR op_notN (pv 2) pe_non (nomark _))) (fun _ _ _ _ _ => pv 2)) pa_nil)))), ?_⟩
    refine ⟨_, rfl, p, CF, dx, _, .ref t, rfl, hp, T.cl, T.nT, List.lookup_cons_self, t, rfl, ⟨_, SqT.of ht⟩, fun D nD => ?_⟩
    have lx : tms.length = xs.length := Paired.length hm
    have s1 : Same H (St.Ks0 P w H D) := Lw.Same.new (Same.refl H) nD
    refine St.turns_of (walk_tup (xs := xs)) (fun i G => ∃ (S : Key → Bool) (n : Nat), Same H G ∧ G D = some (St.KS P w D S n) ∧ n ≤ i ∧ ∀ k, S k = true ↔ ∃ z, k = Sum.inr z ∧ ∃ m ∈ tms.take i, m.name = some z) ⟨_, 0, s1, upd_same, Nat.le_refl _, fun k => by simp⟩ (fun i A hi h => ?_) (fun i x A B hi h y => ?_) (fun A h => ?_)
    · obtain ⟨S, n, sA, _⟩ := h
      exact SqT.of (sA _ _ ht)
    · obtain ⟨S, n, sA, hD, hn, mem⟩ := h
      obtain ⟨rfl, hx⟩ := y
      obtain ⟨m, hmi, e, rfl, hem, okm⟩ := paired_get hm hx
      obtain ⟨a, b, ev⟩ := tm_vs m
      rw [ev] at hem
      have tk : tms.take (i + 1) = tms.take i ++ [m] := by rw [List.take_add_one, hmi]; rfl
      refine ⟨e, _, rfl, SqT.of (sA _ _ hem), rfl, _, _, rfl, _, _, rfl, _, _, rfl, rfl, rfl, _, rfl, rfl, _, rfl, ?_⟩
      cases hz : m.name with
      | none =>
        refine ite_bf (by rfl) ⟨S, n, sA, hD, Nat.le_succ_of_le hn, fun k => (mem k).trans ?_⟩
        rw [tk]
        constructor
        · rintro ⟨z, e1, m', h1, h2⟩
          exact ⟨z, e1, m', List.mem_append_left _ h1, h2⟩
        · rintro ⟨z, e1, m', h1, h2⟩
          rcases List.mem_append.mp h1 with h1 | h1
          · exact ⟨z, e1, m', h1, h2⟩
          · rw [List.mem_singleton.mp h1, hz] at h2
            cases h2
      | some z =>
        have room : n + 1 < scanBound := by
          have big : 1000 < scanBound := by decide
          omega
        refine ite_bt (by rfl) ⟨_, rfl, Sum.inr z, S, n, rfl, hD, room, _, _, fun b o h => ?_, upd_same, ?_, fun k => ?_⟩
        · rw [upd_ne (ne_of_none h nD)]
          exact sA b o h
        · split <;> omega
        · rw [Bool.or_eq_true, decide_eq_true_eq, mem, tk]
          constructor
          · rintro (⟨z', e1, m', h1, h2⟩ | e1)
            · exact ⟨z', e1, m', List.mem_append_left _ h1, h2⟩
            · exact ⟨z, e1, m, List.mem_append_right _ (List.mem_singleton.mpr rfl), hz⟩
          · rintro ⟨z', e1, m', h1, h2⟩
            rcases List.mem_append.mp h1 with h1 | h1
            · exact .inl ⟨z', e1, m', h1, h2⟩
            · rw [List.mem_singleton.mp h1, hz] at h2
              cases h2
              exact .inr e1
    · obtain ⟨S, n, sA, hD, hn, mem⟩ := h
      rw [← lx, List.take_length] at mem
      refine ⟨D, S, n, rfl, hD, by omega, fun k q => ?_, fun ys q nq so nd2 my ly => ?_⟩
      · obtain ⟨z, e1, _⟩ := (mem k).mp q
        exact ⟨z, e1⟩
      · refine k ys q _ (fun b o h => ?_) upd_same so nd2 (fun z => ?_) (by omega)
        · rw [upd_ne (ne_of_none (sA _ _ h) nq)]
          exact sA b o h
        · rw [my, mem]
          constructor
          · rintro ⟨z', e1, h⟩
            cases e1
            exact h
          · exact fun h => ⟨z, rfl, h⟩
end
end Lw

set_option Elab.async false
set_option linter.all false
set_option maxRecDepth 100000
set_option maxHeartbeats 2000000
namespace St
open PySem PySem.Spec PyProof.Rows L2
/-! y = {k: v for ..}, y a plain local -/
section
variable {X : Cx}
theorem ps_setDc {i : Nat} {y : PySem.Str} {py : Pos} {kx vx tg iter : Expr} {ifs : List Expr} {scope : Scope} {own : List (PySem.Str × Nat)} {pos spos : Pos} {wi : TI} {g : TG} {tt : TT} {tk tv : TE} (hc : X.calm = true) (hN : X.N.Nodup) (hy : X.N[i]? = some y) (hl : X.env.scope.names.lookup y = some .local)
    (sw : swapsWith (.DictComp kx vx [⟨tg, iter, ifs, 0⟩] scope pos) (some (.Name y py)) spos.line X.env = pure true) (hi : PI X tg iter wi) (ok : BlkOk X.N X.env.scope scope own)
    (hg : InBlk X scope fun Y => PG Y tg g) (ht : InBlk X scope fun Y => PTs Y ifs tt) (hk : InBlk X scope fun Y => PE Y kx tk) (hv : InBlk X scope fun Y => PE Y vx tv) (hs : ∀ x, foldedSetIterable iter X.env x = pure x := by intro _; rfl) :
    PS X (.Assign [.Name y py] (.DictComp kx vx [⟨tg, iter, ifs, 0⟩] scope pos) spos) (tAsg (tDc wi g tt tk tv (own.map (·.2))) (gName i)) := by
  constructor
  intro pins s σ H D I h
  rw [exec_Assign_Name_used _ _ _ _ sw]
  have h' : tDc wi g tt tk tv (own.map (·.2)) σ H (fun x G => gName i x σ G D.nx) := h
  have run := dc_core (pos := pos) (pos' := firstIterPos [⟨tg, iter, ifs, 0⟩] pos) (use := some (assign (.Name y py) X.env)) (Qf := fun _ t => SP X pins D .next t) hc hN I hi ok hg ht hk hv hs h' (by
    intro L C t m G J q ns fp
    show wpAny _ _ (assign (.Name y py) X.env (.ref L)) _ _ _
    refine wpAny_assign_Name (store_ok2 (v := V.ref L) J hN hy (.inl hl) rfl ?_ (.inr hl))
    rintro t2 J2 ⟨a, sb, ha⟩
    obtain ⟨z0, z1, z2, z3, z4, z5⟩ := fp
    have ne : C ≠ a := ha.elim (fun e => by rw [e]; exact z1) fun e e' => z4 y a e e'.symm
    refine ⟨m, ns.sameBut sb ne, fun h3 sb3 => ⟨_, G, ?_, q⟩⟩
    exact J2.turned (t' := t2.toks) (fun b o nb e => (sb3.2 b nb).trans e) z0 z1 z3 z4 z5)
  exact wpAny_bind (wpAny_standAt (wpAny_bind (wpAny_bind (thn run fun _ t hq => wpAny_pure (wpAny_pure hq)))))
theorem sw_dc {kx vx : Expr} {gs : List Comprehension} {scope : Scope} {pos py : Pos} {y : PySem.Str} {l : Nat} {env : Env} (hk : env.scope.kind = .function) (hy : env.scope.names.lookup y = some .local) (hl : (py.line == pos.line) = true)
    (ha : (scope.names.any fun (n, k) => n == y && (k == .local || k == .cell)) = false) : swapsWith (.DictComp kx vx gs scope pos) (some (.Name y py)) l env = pure true := by
  have k1 : env.kindOf y = some .local := hy
  have k2 : env.blockKind = .function := by
    unfold Env.blockKind
    rw [hk]
    rfl
  unfold swapsWith
  simp only [k2, k1, ha, Expr.pos, hl]
  rfl
end
end St

set_option Elab.async false
set_option linter.all false
set_option maxRecDepth 100000
set_option maxHeartbeats 4000000
namespace Lw
open PySem PySem.Spec PyProof.Rows L2
abbrev sTruM : Stmt := inClass (top 37) 8
section
variable {P : Program} {w : World} {K : PySem.W.Frag} {mg : Str → Option Value} {base : Heap}
/-! truth, of an entry -/
def EnvOk (H : Hp) (key : Int) (c : Addr) (env : Str → Option Int) : Prop := env "key" = some key ∧ ∃ kvs, H c = some (.dK kvs) ∧ ∀ z : Str, z ≠ "key" → (valV kvs (.inr z)).getD .non = cV (env z)
def spTruM (CF : Addr) : Sp := fun vs H Q _ => ∃ (p c : Addr) (tms : List Tm) (key : Int) (env : Str → Option Int) (t : Option Bool) (rest : List (Option Bool)), vs = [.ref p, .int key, .ref c] ∧ Fi CF H p tms ∧ tms.length < 60 ∧ EnvOk H key c env ∧
  evs env tms [] = some (t :: rest) ∧ ∀ G, Same H G → Q (tV t) G
structure TxtT (K : PySem.W.Frag) (mg : Str → Option Value) (CT : Addr) : Prop where
  gT : mg "Table" = some (.ref CT)
  rd : ClX.CRead K CT (.type "type")
  key : ∃ u, ClX.CVal K CT (.type "type") "KEY" (.str "key") u
abbrev nTruM : List Str := ["self", "key", "cells", "grid", "yes", "no", "name"]
theorem scTruM : FnScope nTruM ["self", "key", "cells"] (defScope sTruM) := ⟨rfl, rfl, rfl, by decide +kernel, rfl, by decide +kernel, by decide +kernel⟩
/-- a grid under way -/
def Half (H : Hp) (c D : Addr) (kv : List (Key × V)) (ys : List Str) (i : Nat) (G : Hp) : Prop := ∃ g : List (Key × V), Same H G ∧ G D = some (.dK g) ∧ g.length ≤ i ∧ ∀ z ∈ ys.take i, ∃ l e, valV g (.inr z) = some (.ref l) ∧ G l = some (.lst [.ref e]) ∧ G e = some (.tup [(valV kv (.inr z)).getD .non, .int 1])
theorem ok_truM {CF CT f : Addr} {fd : FuncData} (F : MethD K "truth" "Filter.truth" sTruM f fd) (T : TxtF K mg CF) (Tt : TxtT K mg CT) (mM : MetF P w K mg base CF "mentions" 1 ["self"] (spMent CF)) (mK : MetF P w K mg base CF "masks" 4 ["self", "grid", "full"] (spMasks CF)) : FnOk P w K mg base CX0 5 f fd ["self", "key", "cells"] (spTruM CF) := by
  obtain ⟨f1, fd1, h1, F1, b1⟩ := mM.ex
  obtain ⟨f2, fd2, h2, F2, b2⟩ := mK.ex
  refine F.ok scTruM (fun vs H Q E h => ?_) (fun cdv A outer s0 H vs Q E hr h => ?_)
  · obtain ⟨p, c, tms, key, env, t, rest, rfl, _⟩ := h
    rfl
  · obtain ⟨p, c, tms, key, env, t, rest, rfl, hp, hl, ⟨ek, kvs, hc, he⟩, hev, k⟩ := h
    have nd := scTruM.nd
    have hu := hu_of hr
    have r1 : Room 1 _ := hr.mono (by decide)
    refine ⟨_, PSs.nox (pss_cons (St.ps_setDc (i := 3) (own := [("name", 6)]) (g := gName 6) (tt := tYes) rfl nd rfl rfl (St.sw_dc rfl rfl rfl (by decide +kernel)) (pi_list (pe_meth0 (pv 0) T.cl h1 F1 r1 b1 .nil pass0)) (blkOk_by (N := nTruM) (sc := defScope sTruM) (by decide +kernel))
        (fun _ _ _ _ _ => pg_name (i := 6) nd rfl (Or.inl rfl)) (fun _ _ _ _ _ => pts_nil) (fun _ _ _ _ _ => pv 6) (fun _ _ _ _ _ => pe_lst (pa_cons (pe_tup (pa_cons (pe_dget1 hu (pv 2) (pv 6) ⟨rfl, rfl, rfl, rfl⟩) (pa_cons pe_int pa_nil))) pa_nil)))
      (pss_cons (ps_dput hu (pv 3) (ClX.pe_cval (pe_glob (v := .ref CT) rfl Tt.gT rfl)) (pe_lst (pa_cons (pe_tup (pa_cons (pv 1) (pa_cons pe_int pa_nil))) pa_nil)) rfl)
      (pss_cons (ps_asg (pe_meth (pv 0) T.cl h2 F2 hr b2 .nil pass0 (pa_cons (pv 3) (pa_cons pe_int pa_nil))) (pg_tup (by rfl) (pgs_cons (pg_name (i := 4) nd rfl (Or.inl rfl)) (pgs_cons (pg_name (i := 5) nd rfl (Or.inl rfl)) pgs_nil))))
      (pss_cons (ps_if (pt_cmpR op_eq (pv 4) (pv 5) (nomark _)) (pss_one (ps_ret pe_non)) pss_nil)
      (pss_one (ps_ret (pe_cmpR op_eq (pv 4) pe_int (nomark _)))))))), ?_⟩
    obtain ⟨dx, t1, xs, hp1, ht, hm⟩ := hp
    have hF : Fi CF H p tms := ⟨dx, t1, xs, hp1, ht, hm⟩
    refine sq_set (fun x G => ∃ (D : Addr) (g : List (Key × V)), x = .ref D ∧ H D = none ∧ Same H G ∧ G D = some (.dK g) ∧ g.length ≤ 60 ∧ ∀ m ∈ tms, ∀ z, m.name = some z → ∃ l e, valV g (.inr z) = some (.ref l) ∧ G l = some (.lst [.ref e]) ∧ G e = some (.tup [(valV kvs (.inr z)).getD .non, .int 1])) (fun Q2 q2 => ?_) ?_
    · refine ⟨_, rfl, p, dx, _, rfl, hp1, rfl, p, tms, rfl, hF, hl, fun ys yq G sG hG so nd2 my ly => ⟨yq, rfl, ⟨_, SqL.of hG⟩, fun D nD => ?_⟩⟩
      have nDH : H D = none := none_back sG nD
      have s0 : Same H (upd G D (.dK [])) := sG.trans (Lw.Same.new (Same.refl G) nD)
      have qD : ∀ {o : HO}, G yq = some o → yq ≠ D := fun h => ne_of_none h nD
      refine St.dc_by (walk_list (xs := ys.map V.str)) (fun i A => A yq = some (.lst (ys.map V.str)) ∧ Half H c D kvs ys i A) ⟨by rw [upd_ne (qD hG)]; exact hG, [], s0, upd_same, Nat.le_refl _, fun z h => by simp at h⟩ (fun i A hi h => SqL.of h.1) (fun i x A B hi h y => ?_) (fun A h => ?_)
      · obtain ⟨hA, g, sA, gD, lg, hg⟩ := h
        obtain ⟨rfl, hx⟩ := y
        rw [List.getElem?_map] at hx
        obtain ⟨z, hz, rfl⟩ := Option.map_eq_some_iff.mp hx
        have tk : ys.take (i + 1) = ys.take i ++ [z] := by rw [List.take_add_one, hz]; rfl
        have hi2 : i < 60 := by
          rw [List.length_map] at hi
          omega
        have hcA := sA _ _ hc
        refine ⟨rfl, _, rfl, _, rfl, c, rfl, .inl ⟨_, .inl hcA⟩, _, rfl, _, DGet.k (k := .inr z) hcA, (by show 2 ≤ sizeLine; decide), fun e ne => ⟨(by show 1 ≤ sizeLine; decide), fun l nl => ?_⟩⟩
        have se := Lw.Same.new (o := .tup [(valV kvs (.inr z)).getD .non, .int 1]) (Same.refl B) ne
        have sl := Lw.Same.new (o := .lst [.ref e]) (Same.refl _) nl
        have sB := se.trans sl
        have eD : (upd (upd B e (.tup [(valV kvs (.inr z)).getD .non, .int 1])) l (.lst [.ref e])) e = some (.tup [(valV kvs (.inr z)).getD .non, .int 1]) := sl _ _ upd_same
        have lD : (upd (upd B e (.tup [(valV kvs (.inr z)).getD .non, .int 1])) l (.lst [.ref e])) l = some (.lst [.ref e]) := upd_same
        generalize upd (upd B e (.tup [(valV kvs (.inr z)).getD .non, .int 1])) l (.lst [.ref e]) = B2 at sB eD lD ⊢
        have gD2 := sB _ _ gD
        have notD : ∀ {b : Addr} {o : HO}, B2 b = some o → (∀ g, o ≠ .dK g) → b ≠ D := fun h n e => by
          subst e
          rw [gD2] at h
          cases h
          exact n _ rfl
        refine ⟨g, .inr z, rfl, gD2, Nat.lt_of_le_of_lt lg (Nat.lt_trans hi2 (by decide)), ?_, putK g (.inr z) (.ref l), fun b o h => ?_, upd_same, ?_, fun z' h => ?_⟩
        · rw [upd_ne (notD (sB _ _ hA) (fun _ h => by cases h))]
          exact sB _ _ hA
        · have hb := sB _ _ (sA _ _ h)
          rw [upd_ne (ne_of_none h nDH)]
          exact hb
        · have := length_putK g (.inr z) (V.ref l)
          omega
        · rw [tk] at h
          rw [valV_put]
          by_cases ez : z' = z
          · subst ez
            rw [if_pos rfl]
            refine ⟨l, e, rfl, ?_, ?_⟩
            · rw [upd_ne (notD lD (fun _ h => by cases h))]; exact lD
            · rw [upd_ne (notD eD (fun _ h => by cases h))]; exact eD
          · rw [if_neg (fun h => ez (Sum.inr.inj h))]
            rcases List.mem_append.mp h with h | h
            · obtain ⟨l', e', h1, h2, h3⟩ := hg z' h
              refine ⟨l', e', h1, ?_, ?_⟩
              · rw [upd_ne (notD (sB _ _ h2) (fun _ h => by cases h))]; exact sB _ _ h2
              · rw [upd_ne (notD (sB _ _ h3) (fun _ h => by cases h))]; exact sB _ _ h3
            · exact absurd (List.mem_singleton.mp h) ez
      · obtain ⟨hA, g, sA, gD, lg, hg⟩ := h
        rw [List.length_map] at lg
        rw [List.length_map, List.take_length] at hg
        exact q2 _ _ ⟨D, g, rfl, nDH, sA, gD, by omega, fun m mm z ez => hg z ((my z).mpr ⟨m, mm, ez⟩)⟩
    rintro _ G ⟨D, g, rfl, nD, sG, gD, lg, hg⟩

    obtain ⟨uk, hk⟩ := Tt.key
    refine ⟨_, rfl, (by show 2 ≤ sizeLine; decide), fun e ne => ⟨(by show 1 ≤ sizeLine; decide), fun l nl => ⟨_, rfl, CT, _, .str "key", uk, rfl, Tt.rd, hk, D, _, rfl, DPut.k (k := .inr "key") (kvs := g) ?_ (Nat.lt_of_le_of_lt lg (by decide)), ?_⟩⟩⟩
    · have se := Lw.Same.new (o := .tup [.int key, .int 1]) (Same.refl G) ne
      exact Lw.Same.new (o := .lst [.ref e]) (Same.refl _) nl _ _ (se _ _ gD)
    have se := Lw.Same.new (o := .tup [.int key, .int 1]) (Same.refl G) ne
    have sl := Lw.Same.new (o := .lst [.ref e]) (Same.refl _) nl
    have s2 := se.trans sl
    have eD := sl _ _ (upd_same (H := G) (a := e) (o := .tup [.int key, .int 1]))
    have lD : (upd (upd G e (.tup [.int key, .int 1])) l (.lst [.ref e])) l = some (.lst [.ref e]) := upd_same
    generalize upd (upd G e (.tup [.int key, .int 1])) l (.lst [.ref e]) = G2 at s2 eD lD ⊢
    have gD2 := s2 _ _ gD
    have notD : ∀ {b : Addr} {o : HO}, G2 b = some o → (∀ g, o ≠ .dK g) → b ≠ D := fun h n e => by
      subst e
      rw [gD2] at h
      cases h
      exact n _ rfl
    have s3 : Same H (upd G2 D (.dK (putK g (.inr "key") (.ref l)))) := fun b o h => by
      rw [upd_ne (ne_of_none h nD)]
      exact s2 _ _ (sG _ _ h)
    have grid : GridOk (upd G2 D (.dK (putK g (.inr "key") (.ref l)))) D env tms := by
      refine ⟨_, upd_same, fun m mm z ez => ?_⟩
      rw [valV_put]
      by_cases kz : z = "key"
      · subst kz
        refine ⟨l, e, by rw [if_pos rfl], ?_, ?_⟩
        · rw [upd_ne (notD lD (fun _ h => by cases h))]; exact lD
        · rw [upd_ne (notD eD (fun _ h => by cases h)), ek]; exact eD
      · obtain ⟨l', e', h1, h2, h3⟩ := hg m mm z ez
        rw [he z kz] at h3
        refine ⟨l', e', by rw [if_neg (fun h => kz (Sum.inr.inj h))]; exact h1, ?_, ?_⟩
        · rw [upd_ne (notD (s2 _ _ h2) (fun _ h => by cases h))]; exact s2 _ _ h2
        · rw [upd_ne (notD (s2 _ _ h3) (fun _ h => by cases h))]; exact s2 _ _ h3
    generalize upd G2 D (.dK (putK g (.inr "key") (.ref l))) = G3 at s3 grid ⊢
    have hp3 := s3 _ _ hp1
    refine ⟨_, rfl, p, dx, _, rfl, hp3, rfl, _, rfl, p, D, tms, env, t, rest, rfl, hF.same s3, by omega, grid, hev, fun r G4 s4 hr4 => ?_⟩
    have pr : pairV t = [.int (yI t), .int (nI t)] := rfl
    rw [pr] at hr4
    refine ⟨r, _, rfl, SqT.of hr4, rfl, _, _, rfl, _, _, rfl, rfl, ?_⟩
    have k4 := fun G' (s : Same G4 G') => k G' (s3.trans (s4.trans s))
    refine ⟨_, rfl, _, rfl, rfl, _, rfl, ?_⟩
    rcases t with _ | _ | _
    · exact k4 _ (Same.refl _)
    · exact ⟨_, rfl, rfl, k4 _ (Same.refl _)⟩
    · exact ⟨_, rfl, rfl, k4 _ (Same.refl _)⟩
end
end Lw

set_option Elab.async false
set_option linter.all false
set_option maxRecDepth 100000
set_option maxHeartbeats 4000000
namespace Lw
open PySem PySem.Spec PyProof.Rows L2
abbrev sConM : Stmt := inClass (top 37) 10
section
variable {P : Program} {w : World} {K : PySem.W.Frag} {mg : Str → Option Value} {base : Heap}
/-! an entry is in a filter -/
def spConM (CF : Addr) : Sp := fun vs H Q _ => ∃ (p x c : Addr) (tms : List Tm) (key : Int) (env : Str → Option Int) (t : Option Bool) (rest : List (Option Bool)), vs = [.ref p, .ref x] ∧ H x = some (.tup [.int key, .ref c]) ∧ Fi CF H p tms ∧ tms.length < 60 ∧ EnvOk H key c env ∧
  evs env tms [] = some (t :: rest) ∧ ∀ G, Same H G → Q (.bl (decide (t = some true))) G
abbrev nConM : List Str := ["self", "x", "key", "cells"]
theorem scConM : FnScope nConM ["self", "x"] (defScope sConM) := ⟨rfl, rfl, rfl, by decide +kernel, rfl, by decide +kernel, by decide +kernel⟩
theorem ok_conM {CF f : Addr} {fd : FuncData} (F : MethD K "__contains__" "Filter.__contains__" sConM f fd) (T : TxtF K mg CF) (mT : MetF P w K mg base CF "truth" 5 ["self", "key", "cells"] (spTruM CF)) : FnOk P w K mg base CX0 6 f fd ["self", "x"] (spConM CF) := by
  obtain ⟨f1, fd1, h1, F1, b1⟩ := mT.ex
  refine F.ok scConM (fun vs H Q E h => ?_) (fun cdv A outer s0 H vs Q E hr h => ?_)
  · obtain ⟨p, x, c, tms, key, env, t, rest, rfl, _⟩ := h
    rfl
  · obtain ⟨p, x, c, tms, key, env, t, rest, rfl, hx, hF, hl, he, hev, k⟩ := h
    have nd := scConM.nd
    refine ⟨_, PSs.nox (pss_cons (ps_asg (pv 1) (pg_tup (by rfl) (pgs_cons (pg_name (i := 2) nd rfl (Or.inl rfl)) (pgs_cons (pg_name (i := 3) nd rfl (Or.inl rfl)) pgs_nil))))
      (pss_one (ps_ret (pe_cmpR Tr.op_isNb (pe_meth (pv 0) T.cl h1 F1 hr b1 .nil pass0 (pa_cons (pv 2) (pa_cons (pv 3) pa_nil))) pe_bl (nomark _))))), ?_⟩
    obtain ⟨dx, t1, xs, hp1, ht, hm⟩ := id hF
    refine ⟨_, rfl, x, _, rfl, SqT.of hx, rfl, _, _, rfl, _, _, rfl, rfl, ?_⟩
    refine ⟨_, rfl, p, dx, _, rfl, hp1, rfl, _, rfl, _, rfl, p, c, tms, key, env, t, rest, rfl, hF, hl, he, hev, fun G s => ?_⟩
    exact ⟨t, true, by rcases t with _ | _ | _ <;> rfl, rfl, k G s⟩
end
end Lw

set_option Elab.async false
set_option linter.all false
set_option maxRecDepth 100000
set_option maxHeartbeats 4000000
namespace Lw
open PySem PySem.Spec PyProof.Rows L2
abbrev sComp : Stmt := top 35
abbrev sEmp : Stmt := top 36
section
variable {P : Program} {w : World} {K : PySem.W.Frag} {mg : Str → Option Value} {base : Heap}
/-! comparisons and tests, made -/
def spComp (CF : Addr) : Sp := fun vs H Q _ => ∃ (z y : Str) (i : Int), vs = [.str z, .str y, .int i] ∧ IsWord z ∧ y ∈ signs ∧ ∀ q G, H q = none → Same H G → Fi CF G q [.cmp y z i] → Q (.ref q) G
def spEmp (CF : Addr) : Sp := fun vs H Q _ => ∃ z : Str, vs = [.str z] ∧ IsWord z ∧ ∀ q G, H q = none → Same H G → Fi CF G q [.emp z] → Q (.ref q) G
theorem scComp : FnScope ["name", "sign", "number"] ["name", "sign", "number"] (defScope sComp) := ⟨rfl, rfl, rfl, by decide +kernel, rfl, by decide +kernel, by decide +kernel⟩
theorem word_1000 {z : Str} (h : IsWord z) : z.length ≤ 1000 := Nat.le_trans h.2.1 (by decide)
theorem ok_comp {dS CF f : Addr} {fd : FuncData} (F : FnP K "compare" sComp f fd) (T : TxtTm K mg w dS) (Tp : TxtP mg) (M : MakF P w K mg base CF) (cW : Cal P w K mg base CX0 "is_word" 1 ["value"] (spIsWord K)) (cI : Cal P w K mg base CX0 "is_integer" 1 ["value"] (spIsInteger K)) : FnOk P w K mg base CX0 3 f fd ["name", "sign", "number"] (spComp CF) := by
  obtain ⟨es, n0, D⟩ := T.kd
  refine F.ok scComp (fun vs H Q E h => ?_) (fun cdv A outer s0 H vs Q E hr h => ?_)
  · obtain ⟨z, y, i, rfl, _⟩ := h
    rfl
  · obtain ⟨z, y, i, rfl, hz, hy, k⟩ := h
    have h1 : Room 1 _ := hr.mono (by decide)
    refine ⟨_, PSs.nox (pss_cons (ps_if (pt_not (pt_val (pe_cal cW h1 (pa_cons (pv 0) pa_nil)))) (pss_one ps_never) pss_nil)
      (pss_cons (ps_if (PW.pt (pw_or (pt_not (pt_val (pe_callB call_isi (by rfl) Tp.isi (by decide +kernel) (pa_cons (pv 1) (pa_cons (pe_bltn (v := .ty "str") (by rfl) Tp.str (by decide +kernel) rfl) pa_nil)))))
        (pw_or1 (pt_cmpR (op_notIn_kd D) (pv 1) (pe_glob (v := .ref dS) rfl T.gS rfl) rfl)))) (pss_one ps_never) pss_nil)
      (pss_cons (ps_if (pt_not (pt_val (pe_cal cI h1 (pa_cons (pv 2) pa_nil)))) (pss_one ps_never) pss_nil)
      (pss_one (ps_ret (pe_filter M hr (pa_cons (pe_lst (pa_cons (pe_tup (pa_cons (pv 1) (pa_cons (pv 0) (pa_cons (pv 2) pa_nil)))) pa_nil)) pa_nil))))))), ?_⟩
    refine sq_if1 (fun b G => b = false ∧ Same H G) (fun Q2 q => ⟨_, rfl, _, _, rfl, .inl ⟨z, rfl, word_1000 hz, rfl⟩, fun H' s => ⟨_, rfl, q _ _ ⟨by rw [isWordB_true hz]; rfl, s⟩⟩⟩) (fun _ h => by cases h.1) ?_
    rintro G ⟨_, s1⟩
    obtain ⟨u, hu⟩ := T.at_ y hy
    refine sq_if1 (fun b G2 => b = false ∧ G = G2) (fun Q2 q => ⟨_, rfl, _, _, _, _, true, rfl, .ty _, ty_str y, kit_ty (by decide +kernel), true, rfl, iteF ⟨_, rfl, y, some (.ref u), rfl, rfl, hu.1, _, rfl, q _ _ ⟨rfl, rfl⟩⟩⟩) (fun _ h => by cases h.1) ?_
    rintro _ ⟨_, rfl⟩
    refine sq_if1 (fun b G2 => b = false ∧ G = G2) (fun Q2 q => ⟨_, rfl, _, true, rfl, .inl ⟨rfl, i, rfl⟩, _, rfl, q _ _ ⟨rfl, rfl⟩⟩) (fun _ h => by cases h.1) ?_
    rintro _ ⟨_, rfl⟩
    refine ⟨_, rfl, _, rfl, _, rfl, (by show 3 ≤ sizeLine; decide), fun t nt => ⟨(by show 1 ≤ sizeLine; decide), fun l nl => ?_⟩⟩
    have s2 := Lw.Same.new (o := .tup [.str y, .str z, .int i]) (Same.refl G) nt
    have s3 := Lw.Same.new (o := .lst [.ref t]) (Same.refl _) nl
    exact filter_new (R := fun x G => Q (.ref x) G) upd_same (tms := [.cmp y z i]) (.cons ⟨t, rfl, s3 _ _ upd_same, hy⟩ .nil) fun q G3 nq s hq => k q G3 (none_back (s1.trans (s2.trans s3)) nq) ((s1.trans (s2.trans s3)).trans s) hq
theorem scEmp : FnScope ["name"] ["name"] (defScope sEmp) := ⟨rfl, rfl, rfl, by decide +kernel, rfl, by decide +kernel, by decide +kernel⟩
theorem ok_emp {dS CF f : Addr} {fd : FuncData} (F : FnP K "is_empty" sEmp f fd) (T : TxtTm K mg w dS) (M : MakF P w K mg base CF) (cW : Cal P w K mg base CX0 "is_word" 1 ["value"] (spIsWord K)) : FnOk P w K mg base CX0 3 f fd ["name"] (spEmp CF) := by
  obtain ⟨tk, gE⟩ := T.empty
  refine F.ok scEmp (fun vs H Q E h => ?_) (fun cdv A outer s0 H vs Q E hr h => ?_)
  · obtain ⟨z, rfl, _⟩ := h
    rfl
  · obtain ⟨z, rfl, hz, k⟩ := h
    have h1 : Room 1 _ := hr.mono (by decide)
    refine ⟨_, PSs.nox (pss_cons (ps_if (pt_not (pt_val (pe_cal cW h1 (pa_cons (pv 0) pa_nil)))) (pss_one ps_never) pss_nil)
      (pss_one (ps_ret (pe_filter M hr (pa_cons (pe_lst (pa_cons (pe_tup (pa_cons (pe_glob (v := .str "empty") rfl gE ⟨_, rfl⟩) (pa_cons (pv 0) (pa_cons pe_non pa_nil)))) pa_nil)) pa_nil))))), ?_⟩
    refine sq_if1 (fun b G => b = false ∧ Same H G) (fun Q2 q => ⟨_, rfl, _, _, rfl, .inl ⟨z, rfl, word_1000 hz, rfl⟩, fun H' s => ⟨_, rfl, q _ _ ⟨by rw [isWordB_true hz]; rfl, s⟩⟩⟩) (fun _ h => by cases h.1) ?_
    rintro G ⟨_, s1⟩
    refine ⟨_, rfl, (by show 3 ≤ sizeLine; decide), fun t nt => ⟨(by show 1 ≤ sizeLine; decide), fun l nl => ?_⟩⟩
    have s2 := Lw.Same.new (o := .tup [.str "empty", .str z, .non]) (Same.refl G) nt
    have s3 := Lw.Same.new (o := .lst [.ref t]) (Same.refl _) nl
    exact filter_new (R := fun x G => Q (.ref x) G) upd_same (tms := [.emp z]) (.cons ⟨t, rfl, s3 _ _ upd_same, trivial⟩ .nil) fun q G3 nq s hq => k q G3 (none_back (s1.trans (s2.trans s3)) nq) ((s1.trans (s2.trans s3)).trans s) hq
end
end Lw

set_option Elab.async false
set_option linter.all false
set_option maxRecDepth 100000
set_option maxHeartbeats 4000000
namespace Lw
open PySem PySem.Spec PyProof.Rows L2
abbrev sTruth : Stmt := top 50
section
variable {P : Program} {w : World} {K : PySem.W.Frag} {mg : Str → Option Value} {base : Heap}
/-! the law's own truth of a shape -/
abbrev six (a b c d e f : V) : List (Key × V) := [(.inr "=", a), (.inr "!=", b), (.inr "<", c), (.inr "<=", d), (.inr ">", e), (.inr ">=", f)]
theorem six_at (R : V → Str → Prop) (a b c d e f : V) (ha : R a "=") (hb : R b "!=") (hc : R c "<") (hd : R d "<=") (he : R e ">") (hf : R f ">=") {y : Str} (h : y ∈ signs) : ∃ v, valV (mergeK [] (six a b c d e f)) (.inr y) = some v ∧ R v y := by
  rcases List.mem_cons.mp h with rfl | h
  · exact ⟨a, rfl, ha⟩
  rcases List.mem_cons.mp h with rfl | h
  · exact ⟨b, rfl, hb⟩
  rcases List.mem_cons.mp h with rfl | h
  · exact ⟨c, rfl, hc⟩
  rcases List.mem_cons.mp h with rfl | h
  · exact ⟨d, rfl, hd⟩
  rcases List.mem_cons.mp h with rfl | h
  · exact ⟨e, rfl, he⟩
  rcases List.mem_cons.mp h with rfl | h
  · exact ⟨f, rfl, hf⟩
  cases h
theorem sq_nx {D : Ends} {σ : L2.St} {H : Hp} (h : D.nx σ H) : tNext D σ H := h
inductive Shp where
  | every | nothing
  | empty (z : Str)
  | comp (z y : Str) (i : Int)
  | not (s : Shp)
  | bin (w : Str) (s t : Shp)
def ShV (H : Hp) : Shp → V → Prop
  | .every, v => ∃ p, v = .ref p ∧ H p = some (.tup [.str "every"])
  | .nothing, v => ∃ p, v = .ref p ∧ H p = some (.tup [.str "nothing"])
  | .empty z, v => ∃ p, v = .ref p ∧ H p = some (.tup [.str "empty", .str z])
  | .comp z y i, v => ∃ p, v = .ref p ∧ H p = some (.tup [.str "compare", .str z, .str y, .int i])
  | .not s, v => ∃ p u, v = .ref p ∧ H p = some (.tup [.str "not", u]) ∧ ShV H s u
  | .bin w s t, v => ∃ p u1 u2, v = .ref p ∧ H p = some (.tup [.str w, u1, u2]) ∧ ShV H s u1 ∧ ShV H t u2
theorem ShV.same {H G : Hp} (k : Same H G) : ∀ {s : Shp} {v : V}, ShV H s v → ShV G s v
  | .every, _, ⟨p, e, h⟩ => ⟨p, e, k _ _ h⟩
  | .nothing, _, ⟨p, e, h⟩ => ⟨p, e, k _ _ h⟩
  | .empty _, _, ⟨p, e, h⟩ => ⟨p, e, k _ _ h⟩
  | .comp _ _ _, _, ⟨p, e, h⟩ => ⟨p, e, k _ _ h⟩
  | .not s, _, ⟨p, u, e, h, r⟩ => ⟨p, u, e, k _ _ h, ShV.same k (s := s) r⟩
  | .bin _ s t, _, ⟨p, u1, u2, e, h, r1, r2⟩ => ⟨p, u1, u2, e, k _ _ h, ShV.same k (s := s) r1, ShV.same k (s := t) r2⟩
def words : List Str := ["and", "or", "minus", "differ"]
def Shp.depth : Shp → Nat
  | .not s => s.depth + 1
  | .bin _ s t => max s.depth t.depth + 1
  | _ => 0
def Shp.ok : Shp → Prop
  | .comp _ y _ => y ∈ signs
  | .not s => s.ok
  | .bin w s t => w ∈ words ∧ s.ok ∧ t.ok
  | _ => True
def bin3 (w : Str) (a b : Option Bool) : Option Bool := if w = "and" then and3 a b else if w = "or" then or3 a b else if w = "minus" then and3 a (not3 b) else xor3 a b
def sem (env : Str → Option Int) : Shp → Option Bool
  | .every => some true
  | .nothing => some false
  | .empty z => some (decide (env z = none))
  | .comp z y i => cellT y i (env z)
  | .not s => not3 (sem env s)
  | .bin w s t => bin3 w (sem env s) (sem env t)
/-- an entry: its key, its cells -/
theorem EnvOk.same {H G : Hp} (s : Same H G) {key : Int} {c : Addr} {env : Str → Option Int} (h : EnvOk H key c env) : EnvOk G key c env := by
  obtain ⟨h1, kvs, h2, h3⟩ := h
  exact ⟨h1, kvs, s _ _ h2, h3⟩
def spTruth (d : Nat) : Sp := fun vs H Q _ => ∃ (v : V) (key : Int) (c : Addr) (env : Str → Option Int) (s : Shp), vs = [v, .int key, .ref c] ∧ ShV H s v ∧ s.ok ∧ s.depth ≤ d ∧ EnvOk H key c env ∧ ∀ G, Same H G → Q (tV (sem env s)) G
abbrev nTruth : List Str := ["shape", "key", "cells", "word", "cell", "order", "one", "other", "ends"]
theorem scTruth : FnScope nTruth ["shape", "key", "cells"] (defScope sTruth) := ⟨rfl, rfl, rfl, by decide +kernel, rfl, by decide +kernel, by decide +kernel⟩
theorem truth_step {f : Addr} {fd : FuncData} (F : FnP K "_law_truth" sTruth f fd) (d k : Nat) (cT : Cal P w K mg base CX0 "_law_truth" (k + 1) ["shape", "key", "cells"] (fun vs H Q E => ∃ d', d' < d ∧ spTruth d' vs H Q E)) : FnOk P w K mg base CX0 (k + 2) f fd ["shape", "key", "cells"] (spTruth d) := by
  refine F.ok scTruth (fun vs H Q E h => ?_) (fun cdv A outer s0 H vs Q E hr h => ?_)
  · obtain ⟨v, key, c, env, s, rfl, _⟩ := h
    rfl
  · obtain ⟨v, key, c, env, s, rfl, hs, ok, dp, he, kk⟩ := h
    have nd := scTruth.nd
    have hu := hu_of hr
    refine ⟨_, PSs.nox (pss_cons (ps_set (i := 3) nd rfl (Or.inl rfl) (pe_ix ix_tup (pv 0) pe_int (fun _ _ => rfl)))
      (pss_cons (ps_if (pt_cmpR op_in_seq (pv 3) (pe_tup (pa_cons pe_str (pa_cons pe_str pa_nil))) (by rfl)) (pss_one (ps_ret (pe_cmpR op_eq (pv 3) pe_str (nomark _)))) pss_nil)
      (pss_cons (ps_if (pt_cmpR op_in_seq (pv 3) (pe_tup (pa_cons pe_str (pa_cons pe_str pa_nil))) (by rfl))
        (pss_cons (ps_set (i := 4) nd rfl (Or.inl rfl) (pe_ifExp (pt_cmpR op_eq (pe_ix ix_tup (pv 0) pe_int (fun _ _ => rfl)) pe_str (nomark _)) (pv 1) (pe_dget1 hu (pv 2) (pe_ix ix_tup (pv 0) pe_int (fun _ _ => rfl)) ⟨rfl, rfl, rfl, rfl⟩)))
        (pss_cons (ps_if (PW.pt (pw_or (pt_cmpR op_eq (pv 3) pe_str (nomark _)) (pw_or1 (pt_cmpR op_isN (pv 4) pe_non (nomark _))))) (pss_one (ps_ret (pe_ifExp (pt_cmpR op_eq (pv 3) pe_str (nomark _)) (pe_cmpR op_isN (pv 4) pe_non (nomark _)) pe_non))) pss_nil)
        (pss_cons (ps_set (i := 5) nd rfl (Or.inl rfl) (pe_op Tr.op_subBl (pe_cmpR op_gt (pv 4) (pe_ix ix_tup (pv 0) pe_int (fun _ _ => rfl)) (nomark _)) (pe_cmpR op_lt (pv 4) (pe_ix ix_tup (pv 0) pe_int (fun _ _ => rfl)) (nomark _))))
        (pss_one (ps_ret (pe_cmpR op_in_seq (pv 5) (pe_dget hu (pe_disp (pps_cons pe_str (pe_tup (pa_cons pe_int pa_nil)) (pps_cons pe_str (pe_tup (pa_cons (pe_un un_neg pe_int) (pa_cons pe_int pa_nil))) (pps_cons pe_str (pe_tup (pa_cons (pe_un un_neg pe_int) pa_nil)) (pps_cons pe_str (pe_tup (pa_cons (pe_un un_neg pe_int) (pa_cons pe_int pa_nil)))
          (pps_cons pe_str (pe_tup (pa_cons pe_int pa_nil)) (pps_cons pe_str (pe_tup (pa_cons pe_int (pa_cons pe_int pa_nil))) pps_nil)))))) (by rfl) (by rfl) (fun z => by cases z) (by decide)) (pe_ix ix_tup (pv 0) pe_int (fun _ _ => rfl)) (fun _ _ => rfl)) (by rfl))))))) pss_nil)
      (pss_cons (ps_set (i := 6) nd rfl (Or.inl rfl) (pe_cal cT hr (pa_cons (pe_ix ix_tup (pv 0) pe_int (fun _ _ => rfl)) (pa_cons (pv 1) (pa_cons (pv 2) pa_nil)))))
      (pss_cons (ps_if (pt_cmpR op_eq (pv 3) pe_str (nomark _)) (pss_one (ps_ret (pe_ifExp (pt_cmpR op_isN (pv 6) pe_non (nomark _)) pe_non (pe_not (pv 6))))) pss_nil)
      (pss_cons (ps_set (i := 7) nd rfl (Or.inl rfl) (pe_cal cT hr (pa_cons (pe_ix ix_tup (pv 0) pe_int (fun _ _ => rfl)) (pa_cons (pv 1) (pa_cons (pv 2) pa_nil)))))
      (pss_cons (ps_if (PW.pt (pw_and (pt_cmpR op_eq (pv 3) pe_str (nomark _)) (pw_and1 (pt_cmpR op_notN (pv 7) pe_non (nomark _))))) (pss_one (ps_set (i := 7) nd rfl (Or.inl rfl) (pe_not (pv 7)))) pss_nil)
      (pss_cons (ps_if (pt_cmpR op_eq (pv 3) pe_str (nomark _)) (pss_one (ps_ret (pe_ifExp (PW.pt (pw_or (pt_cmpR op_isN (pv 6) pe_non (nomark _)) (pw_or1 (pt_cmpR op_isN (pv 7) pe_non (nomark _))))) pe_non (pe_cmpR op_ne (pv 6) (pv 7) (nomark _))))) pss_nil)
      (pss_cons (ps_set (i := 8) nd rfl (Or.inl rfl) (pe_cmpR op_eq (pv 3) pe_str (nomark _)))
      (pss_cons (ps_if (PW.pt (pw_or (pt_cmpR op_eq (pv 6) (pv 8) (nomark _)) (pw_or1 (pt_cmpR op_eq (pv 7) (pv 8) (nomark _))))) (pss_one (ps_ret (pv 8))) pss_nil)
      (pss_one (ps_ret (pe_ifExp (PW.pt (pw_or (pt_cmpR op_isN (pv 6) pe_non (nomark _)) (pw_or1 (pt_cmpR op_isN (pv 7) pe_non (nomark _))))) pe_non (pe_not (pv 8))))))))))))))), ?_⟩
    have two : ∀ (a b w : Str), inV (.str w) [.str a, .str b] = decide (w ∈ ([a, b] : List Str)) := fun a b w => inV_str w [a, b]
    cases s with
    | every =>
      obtain ⟨p, rfl, hp⟩ := hs
      refine sq_set (fun x G => H = G ∧ x = .str "every") (fun Q q => ⟨_, rfl, p, _, _, .str "every", rfl, rfl, SqT.of hp, rfl, q _ _ ⟨rfl, rfl⟩⟩) ?_
      rintro _ _ ⟨rfl, rfl⟩
      refine ⟨_, rfl, (by show 2 ≤ sizeLine; decide), fun u nu => ⟨u, _, rfl, .inr (SqT.of upd_same), rfl, rfl, _, rfl, ite_bt (by decide +kernel) ⟨_, rfl, rfl, ?_⟩⟩⟩
      rw [decide_eq_true rfl]
      exact kk _ (Lw.Same.new (Same.refl H) nu)
    | nothing =>
      obtain ⟨p, rfl, hp⟩ := hs
      refine sq_set (fun x G => H = G ∧ x = .str "nothing") (fun Q q => ⟨_, rfl, p, _, _, .str "nothing", rfl, rfl, SqT.of hp, rfl, q _ _ ⟨rfl, rfl⟩⟩) ?_
      rintro _ _ ⟨rfl, rfl⟩
      refine ⟨_, rfl, (by show 2 ≤ sizeLine; decide), fun u nu => ⟨u, _, rfl, .inr (SqT.of upd_same), rfl, rfl, _, rfl, ite_bt (by decide +kernel) ⟨_, rfl, rfl, ?_⟩⟩⟩
      rw [decide_eq_false (by decide +kernel)]
      exact kk _ (Lw.Same.new (Same.refl H) nu)
    | empty z =>
      obtain ⟨p, rfl, hp⟩ := hs
      obtain ⟨hk, kvs, hc, hz⟩ := he
      refine sq_set (fun x G => H = G ∧ x = .str "empty") (fun Q q => ⟨_, rfl, p, _, _, .str "empty", rfl, rfl, SqT.of hp, rfl, q _ _ ⟨rfl, rfl⟩⟩) ?_
      rintro _ _ ⟨rfl, rfl⟩
      refine ⟨_, rfl, (by show 2 ≤ sizeLine; decide), fun u nu => ⟨u, _, rfl, .inr (SqT.of upd_same), rfl, rfl, _, rfl, ite_bf (by decide +kernel) ?_⟩⟩
      have s1 := Lw.Same.new (o := .tup [.str "every", .str "nothing"]) (Same.refl H) nu
      refine ⟨_, rfl, (by show 2 ≤ sizeLine; decide), fun r nr => ⟨r, _, rfl, .inr (SqT.of upd_same), rfl, rfl, _, rfl, ite_bt (by decide +kernel) ?_⟩⟩
      have s2 := s1.trans (Lw.Same.new (o := .tup [.str "empty", .str "compare"]) (Same.refl _) nr)
      generalize upd (upd H u (.tup [.str "every", .str "nothing"])) r (.tup [.str "empty", .str "compare"]) = G at s2
      have hpG := s2 _ _ hp
      refine sq_set (fun x G' => G = G' ∧ x = cV (env z)) (fun Q q => ?_) ?_
      · refine ⟨_, rfl, p, _, _, .str z, rfl, rfl, SqT.of hpG, rfl, rfl, _, rfl, strI (fun e => ?_) (fun e => ?_)⟩
        · exact ⟨_, rfl, q _ _ ⟨rfl, by rw [e, hk]; rfl⟩⟩
        · refine ⟨_, rfl, c, rfl, .inl ⟨kvs, .inl (s2 _ _ hc)⟩, _, rfl, p, _, _, .str z, rfl, rfl, SqT.of hpG, rfl, _, DGet.k (k := .inr z) (s2 _ _ hc), q _ _ ⟨rfl, hz z e⟩⟩
      rintro _ _ ⟨rfl, rfl⟩
      refine ⟨_, rfl, rfl, _, rfl, strI (fun _ => ?_) (fun e => absurd rfl e)⟩
      refine ⟨_, rfl, rfl, _, rfl, strI (fun _ => ?_) (fun e => absurd rfl e)⟩
      refine ⟨_, rfl, rfl, ?_⟩
      have e : decide (cV (env z) = .non) = decide (env z = none) := by cases env z <;> rfl
      rw [e]
      exact kk _ s2
    | comp z y i =>
      obtain ⟨p, rfl, hp⟩ := hs
      obtain ⟨hk, kvs, hc, hz⟩ := he
      refine sq_set (fun x G => H = G ∧ x = .str "compare") (fun Q q => ⟨_, rfl, p, _, _, .str "compare", rfl, rfl, SqT.of hp, rfl, q _ _ ⟨rfl, rfl⟩⟩) ?_
      rintro _ _ ⟨rfl, rfl⟩
      refine ⟨_, rfl, (by show 2 ≤ sizeLine; decide), fun u nu => ⟨u, _, rfl, .inr (SqT.of upd_same), rfl, rfl, _, rfl, ite_bf (by decide +kernel) ?_⟩⟩
      have s1 := Lw.Same.new (o := .tup [.str "every", .str "nothing"]) (Same.refl H) nu
      refine ⟨_, rfl, (by show 2 ≤ sizeLine; decide), fun r nr => ⟨r, _, rfl, .inr (SqT.of upd_same), rfl, rfl, _, rfl, ite_bt (by decide +kernel) ?_⟩⟩
      have s2 := s1.trans (Lw.Same.new (o := .tup [.str "empty", .str "compare"]) (Same.refl _) nr)
      generalize upd (upd H u (.tup [.str "every", .str "nothing"])) r (.tup [.str "empty", .str "compare"]) = G at s2
      have hpG := s2 _ _ hp
      refine sq_set (fun x G' => G = G' ∧ x = cV (env z)) (fun Q q => ?_) ?_
      · refine ⟨_, rfl, p, _, _, .str z, rfl, rfl, SqT.of hpG, rfl, rfl, _, rfl, strI (fun e => ?_) (fun e => ?_)⟩
        · exact ⟨_, rfl, q _ _ ⟨rfl, by rw [e, hk]; rfl⟩⟩
        · refine ⟨_, rfl, c, rfl, .inl ⟨kvs, .inl (s2 _ _ hc)⟩, _, rfl, p, _, _, .str z, rfl, rfl, SqT.of hpG, rfl, _, DGet.k (k := .inr z) (s2 _ _ hc), q _ _ ⟨rfl, hz z e⟩⟩
      rintro _ _ ⟨rfl, rfl⟩
      have kk' := fun G' (s3 : Same G G') => kk G' (s2.trans s3)
      have e : sem env (.comp z y i) = cellT y i (env z) := rfl
      rw [e] at kk'
      generalize env z = t at kk' ⊢
      refine ⟨_, rfl, rfl, _, rfl, strI (fun e => absurd e (by decide +kernel)) (fun _ => ?_)⟩
      cases t with
      | none => exact ⟨_, rfl, rfl, _, rfl, ite_bt rfl ⟨_, rfl, rfl, _, rfl, strI (fun e => absurd e (by decide +kernel)) (fun _ => kk' G (Same.refl G))⟩⟩
      | some n =>
        refine ⟨_, rfl, rfl, _, rfl, ite_bf rfl ?_⟩
        refine ⟨_, rfl, _, rfl, p, _, _, .int i, rfl, rfl, SqT.of hpG, rfl, _, _, rfl, rfl, ?_⟩
        refine ⟨_, rfl, _, rfl, p, _, _, .int i, rfl, rfl, SqT.of hpG, rfl, _, _, rfl, rfl, _, _, rfl, rfl, ?_⟩
        refine ⟨_, rfl, fun d0 nd0 => ?_⟩
        refine ⟨(by show 1 ≤ sizeLine; decide), fun u1 n1 => ?_⟩
        refine ⟨_, rfl, (by show 2 ≤ sizeLine; decide), fun u2 n2 => ?_⟩
        refine ⟨_, rfl, (by show 1 ≤ sizeLine; decide), fun u3 n3 => ?_⟩
        refine ⟨_, rfl, (by show 2 ≤ sizeLine; decide), fun u4 n4 => ?_⟩
        refine ⟨(by show 1 ≤ sizeLine; decide), fun u5 n5 => ?_⟩
        refine ⟨(by show 2 ≤ sizeLine; decide), fun u6 n6 => ?_⟩
        have e1 := Lw.Same.new (o := .tup [.int 0]) (Same.refl _) n1
        have e2 := Lw.Same.new (o := .tup [.int (-1), .int 1]) (Same.refl _) n2
        have e3 := Lw.Same.new (o := .tup [.int (-1)]) (Same.refl _) n3
        have e4 := Lw.Same.new (o := .tup [.int (-1), .int 0]) (Same.refl _) n4
        have e5 := Lw.Same.new (o := .tup [.int 1]) (Same.refl _) n5
        have e6 := Lw.Same.new (o := .tup [.int 0, .int 1]) (Same.refl _) n6
        have ed := (e1.trans (e2.trans (e3.trans (e4.trans (e5.trans e6))))) _ _ upd_same
        have p1 := (e2.trans (e3.trans (e4.trans (e5.trans e6)))) _ _ upd_same
        have p2 := (e3.trans (e4.trans (e5.trans e6))) _ _ upd_same
        have p3 := (e4.trans (e5.trans e6)) _ _ upd_same
        have p4 := (e5.trans e6) _ _ upd_same
        have p5 := e6 _ _ upd_same
        have all := (Lw.Same.new (o := .dK []) (Same.refl G) nd0).trans (e1.trans (e2.trans (e3.trans (e4.trans (e5.trans e6)))))
        obtain ⟨v, hv, uy, rfl, hu7⟩ := six_at (fun v y => ∃ u, v = .ref u ∧ upd (upd (upd (upd (upd (upd (upd G d0 (.dK [])) u1 (.tup [.int 0])) u2 (.tup [.int (-1), .int 1])) u3 (.tup [.int (-1)])) u4 (.tup [.int (-1), .int 0])) u5 (.tup [.int 1])) u6 (.tup [.int 0, .int 1]) u = some (.tup ((places y).map V.int)))
          (.ref u1) (.ref u2) (.ref u3) (.ref u4) (.ref u5) (.ref u6) ⟨_, rfl, p1⟩ ⟨_, rfl, p2⟩ ⟨_, rfl, p3⟩ ⟨_, rfl, p4⟩ ⟨_, rfl, p5⟩ ⟨_, rfl, upd_same⟩ (show y ∈ signs from ok)
        refine ⟨ed, six (.ref u1) (.ref u2) (.ref u3) (.ref u4) (.ref u5) (.ref u6), rfl, (by show 6 ≤ 15; decide), ?_⟩
        have sF : ∀ {b o}, G b = some o → _ := fun {b o} h => (upd_ne (o := .dK (mergeK [] (six (.ref u1) (.ref u2) (.ref u3) (.ref u4) (.ref u5) (.ref u6)))) (show b ≠ d0 from fun z => by subst z; rw [nd0] at h; cases h)).trans (all b o h)
        have ney : uy ≠ d0 := fun z => by subst z; rw [ed] at hu7; cases hu7
        refine ⟨_, rfl, p, _, _, .str y, rfl, rfl, SqT.of (sF hpG), rfl, d0, .ref uy, rfl, hv ▸ DGet.k (k := .inr y) upd_same, ?_⟩
        refine ⟨uy, _, rfl, .inr (SqT.of ((upd_ne ney).trans hu7)), rfl, flat_ints _, ?_⟩
        have e3 : inV (.int (place n i)) ((places y).map V.int) = decide (place n i ∈ places y) := inV_int _ _
        show Q (.bl (inV (.int (place n i)) ((places y).map V.int))) _
        rw [e3]
        exact kk' _ fun b o h => sF h
    | not s =>
      obtain ⟨p, v1, rfl, hp, hs1⟩ := hs
      refine sq_set (fun x G => H = G ∧ x = .str "not") (fun Q q => ⟨_, rfl, p, _, _, .str "not", rfl, rfl, SqT.of hp, rfl, q _ _ ⟨rfl, rfl⟩⟩) ?_
      rintro _ _ ⟨rfl, rfl⟩
      refine ⟨_, rfl, (by show 2 ≤ sizeLine; decide), fun u nu => ⟨u, _, rfl, .inr (SqT.of upd_same), rfl, rfl, _, rfl, ite_bf (by decide +kernel) ?_⟩⟩
      have s1 := Lw.Same.new (o := .tup [.str "every", .str "nothing"]) (Same.refl H) nu
      refine ⟨_, rfl, (by show 2 ≤ sizeLine; decide), fun r nr => ⟨r, _, rfl, .inr (SqT.of upd_same), rfl, rfl, _, rfl, ite_bf (by decide +kernel) ?_⟩⟩
      have s2 := s1.trans (Lw.Same.new (o := .tup [.str "empty", .str "compare"]) (Same.refl _) nr)
      generalize upd (upd H u (.tup [.str "every", .str "nothing"])) r (.tup [.str "empty", .str "compare"]) = G at s2
      have hpG := s2 _ _ hp
      dsimp only [tNext]
      refine sq_set (fun x G' => Same G G' ∧ x = tV (sem env s)) (fun Q q => ?_) ?_
      · refine ⟨_, rfl, p, _, _, v1, rfl, rfl, SqT.of hpG, rfl, _, rfl, _, rfl, ?_⟩
        exact ⟨s.depth, Nat.lt_of_lt_of_le (Nat.lt_succ_self _) dp, v1, key, c, env, s, rfl, hs1.same s2, ok, Nat.le_refl _, he.same s2, fun G' s3 => q _ _ ⟨s3, rfl⟩⟩
      rintro _ G' ⟨s3, rfl⟩
      refine ⟨_, rfl, rfl, _, rfl, strI (fun _ => ?_) (fun e => absurd rfl e)⟩
      have kk' := kk G' (s2.trans s3)
      have e : sem env (.not s) = not3 (sem env s) := rfl
      rw [e] at kk'
      generalize sem env s = t at kk' ⊢
      cases t with
      | none => exact ⟨_, rfl, rfl, _, rfl, ite_bt rfl kk'⟩
      | some b => exact ⟨_, rfl, rfl, _, rfl, ite_bf rfl ⟨_, rfl, _, rfl, kk'⟩⟩
    | bin w' s t =>
      obtain ⟨hw, ok1, ok2⟩ := ok
      obtain ⟨p, v1, v2, rfl, hp, hs1, hs2⟩ := hs
      rcases List.mem_cons.mp hw with rfl | hw
      · refine sq_set (fun x G => H = G ∧ x = .str "and") (fun Q q => ⟨_, rfl, p, _, _, .str "and", rfl, rfl, SqT.of hp, rfl, q _ _ ⟨rfl, rfl⟩⟩) ?_
        rintro _ _ ⟨rfl, rfl⟩
        refine ⟨_, rfl, (by show 2 ≤ sizeLine; decide), fun u nu => ⟨u, _, rfl, .inr (SqT.of upd_same), rfl, rfl, _, rfl, ite_bf (by decide +kernel) ?_⟩⟩
        have s1 := Lw.Same.new (o := .tup [.str "every", .str "nothing"]) (Same.refl H) nu
        refine ⟨_, rfl, (by show 2 ≤ sizeLine; decide), fun r nr => ⟨r, _, rfl, .inr (SqT.of upd_same), rfl, rfl, _, rfl, ite_bf (by decide +kernel) ?_⟩⟩
        have s2 := s1.trans (Lw.Same.new (o := .tup [.str "empty", .str "compare"]) (Same.refl _) nr)
        generalize upd (upd H u (.tup [.str "every", .str "nothing"])) r (.tup [.str "empty", .str "compare"]) = G at s2
        have hpG := s2 _ _ hp
        dsimp only [tNext]
        refine sq_set (fun x G' => Same G G' ∧ x = tV (sem env s)) (fun Q q => ?_) ?_
        · refine ⟨_, rfl, p, _, _, v1, rfl, rfl, SqT.of hpG, rfl, _, rfl, _, rfl, ?_⟩
          exact ⟨s.depth, Nat.lt_of_lt_of_le (Nat.lt_succ_of_le (Nat.le_max_left _ _)) dp, v1, key, c, env, s, rfl, hs1.same s2, ok1, Nat.le_refl _, he.same s2, fun G' s3 => q _ _ ⟨s3, rfl⟩⟩
        rintro _ G' ⟨s3, rfl⟩
        refine ⟨_, rfl, rfl, _, rfl, strI (fun e => absurd e (by decide +kernel)) (fun _ => ?_)⟩
        dsimp only [tNext]
        refine sq_set (fun x G2 => Same G' G2 ∧ x = tV (sem env t)) (fun Q q => ?_) ?_
        · refine ⟨_, rfl, p, _, _, v2, rfl, rfl, SqT.of (s3 _ _ hpG), rfl, _, rfl, _, rfl, ?_⟩
          exact ⟨t.depth, Nat.lt_of_lt_of_le (Nat.lt_succ_of_le (Nat.le_max_right _ _)) dp, v2, key, c, env, t, rfl, hs2.same (s2.trans s3), ok2, Nat.le_refl _, he.same (s2.trans s3), fun G2 s4 => q _ _ ⟨s4, rfl⟩⟩
        rintro _ G2 ⟨s4, rfl⟩
        have kk' : Q (tV (bin3 "and" (sem env s) (sem env t))) G2 := kk G2 ((s2.trans s3).trans s4)
        generalize sem env s = a at kk' ⊢
        generalize sem env t = b at kk' ⊢
        refine ⟨_, rfl, rfl, _, rfl, strI (fun e => absurd e (by decide +kernel)) (fun _ => ite_bf rfl ?_)⟩
        have ew : decide (V.str "and" = V.str "or") = false := by decide +kernel
        refine ⟨_, rfl, rfl, _, rfl, strI (fun e => absurd e (by decide +kernel)) (fun _ => ?_)⟩
        refine ⟨_, rfl, rfl, ?_⟩
        rw [ew]
        rcases a with _ | _ | _ <;> rcases b with _ | _ | _
        all_goals first
          | exact ⟨_, rfl, _, rfl, rfl, _, rfl, ite_bt (by decide +kernel) (ite_bt rfl ⟨_, rfl, kk'⟩)⟩
          | exact ⟨_, rfl, _, rfl, rfl, _, rfl, ite_bf (by decide +kernel) ⟨_, rfl, _, rfl, rfl, _, rfl, ite_bt (by decide +kernel) ⟨_, rfl, kk'⟩⟩⟩
          | exact ⟨_, rfl, _, rfl, rfl, _, rfl, ite_bf (by decide +kernel) ⟨_, rfl, _, rfl, rfl, _, rfl, ite_bf (by decide +kernel) ⟨_, rfl, rfl, _, rfl, ite_bt (by decide +kernel) (ite_bt rfl kk')⟩⟩⟩
          | exact ⟨_, rfl, _, rfl, rfl, _, rfl, ite_bf (by decide +kernel) ⟨_, rfl, _, rfl, rfl, _, rfl, ite_bf (by decide +kernel) ⟨_, rfl, rfl, _, rfl, ite_bf (by decide +kernel) ⟨_, rfl, rfl, _, rfl, ite_bt (by decide +kernel) kk'⟩⟩⟩⟩
          | exact ⟨_, rfl, _, rfl, rfl, _, rfl, ite_bf (by decide +kernel) ⟨_, rfl, _, rfl, rfl, _, rfl, ite_bf (by decide +kernel) ⟨_, rfl, rfl, _, rfl, ite_bf (by decide +kernel) ⟨_, rfl, rfl, _, rfl, ite_bf (by decide +kernel) ⟨_, rfl, _, rfl, kk'⟩⟩⟩⟩⟩
      rcases List.mem_cons.mp hw with rfl | hw
      · refine sq_set (fun x G => H = G ∧ x = .str "or") (fun Q q => ⟨_, rfl, p, _, _, .str "or", rfl, rfl, SqT.of hp, rfl, q _ _ ⟨rfl, rfl⟩⟩) ?_
        rintro _ _ ⟨rfl, rfl⟩
        refine ⟨_, rfl, (by show 2 ≤ sizeLine; decide), fun u nu => ⟨u, _, rfl, .inr (SqT.of upd_same), rfl, rfl, _, rfl, ite_bf (by decide +kernel) ?_⟩⟩
        have s1 := Lw.Same.new (o := .tup [.str "every", .str "nothing"]) (Same.refl H) nu
        refine ⟨_, rfl, (by show 2 ≤ sizeLine; decide), fun r nr => ⟨r, _, rfl, .inr (SqT.of upd_same), rfl, rfl, _, rfl, ite_bf (by decide +kernel) ?_⟩⟩
        have s2 := s1.trans (Lw.Same.new (o := .tup [.str "empty", .str "compare"]) (Same.refl _) nr)
        generalize upd (upd H u (.tup [.str "every", .str "nothing"])) r (.tup [.str "empty", .str "compare"]) = G at s2
        have hpG := s2 _ _ hp
        dsimp only [tNext]
        refine sq_set (fun x G' => Same G G' ∧ x = tV (sem env s)) (fun Q q => ?_) ?_
        · refine ⟨_, rfl, p, _, _, v1, rfl, rfl, SqT.of hpG, rfl, _, rfl, _, rfl, ?_⟩
          exact ⟨s.depth, Nat.lt_of_lt_of_le (Nat.lt_succ_of_le (Nat.le_max_left _ _)) dp, v1, key, c, env, s, rfl, hs1.same s2, ok1, Nat.le_refl _, he.same s2, fun G' s3 => q _ _ ⟨s3, rfl⟩⟩
        rintro _ G' ⟨s3, rfl⟩
        refine ⟨_, rfl, rfl, _, rfl, strI (fun e => absurd e (by decide +kernel)) (fun _ => ?_)⟩
        dsimp only [tNext]
        refine sq_set (fun x G2 => Same G' G2 ∧ x = tV (sem env t)) (fun Q q => ?_) ?_
        · refine ⟨_, rfl, p, _, _, v2, rfl, rfl, SqT.of (s3 _ _ hpG), rfl, _, rfl, _, rfl, ?_⟩
          exact ⟨t.depth, Nat.lt_of_lt_of_le (Nat.lt_succ_of_le (Nat.le_max_right _ _)) dp, v2, key, c, env, t, rfl, hs2.same (s2.trans s3), ok2, Nat.le_refl _, he.same (s2.trans s3), fun G2 s4 => q _ _ ⟨s4, rfl⟩⟩
        rintro _ G2 ⟨s4, rfl⟩
        have kk' : Q (tV (bin3 "or" (sem env s) (sem env t))) G2 := kk G2 ((s2.trans s3).trans s4)
        generalize sem env s = a at kk' ⊢
        generalize sem env t = b at kk' ⊢
        refine ⟨_, rfl, rfl, _, rfl, strI (fun e => absurd e (by decide +kernel)) (fun _ => ite_bf rfl ?_)⟩
        have ew : decide (V.str "or" = V.str "or") = true := by decide +kernel
        refine ⟨_, rfl, rfl, _, rfl, strI (fun e => absurd e (by decide +kernel)) (fun _ => ?_)⟩
        refine ⟨_, rfl, rfl, ?_⟩
        rw [ew]
        rcases a with _ | _ | _ <;> rcases b with _ | _ | _
        all_goals first
          | exact ⟨_, rfl, _, rfl, rfl, _, rfl, ite_bt (by decide +kernel) (ite_bt rfl ⟨_, rfl, kk'⟩)⟩
          | exact ⟨_, rfl, _, rfl, rfl, _, rfl, ite_bf (by decide +kernel) ⟨_, rfl, _, rfl, rfl, _, rfl, ite_bt (by decide +kernel) ⟨_, rfl, kk'⟩⟩⟩
          | exact ⟨_, rfl, _, rfl, rfl, _, rfl, ite_bf (by decide +kernel) ⟨_, rfl, _, rfl, rfl, _, rfl, ite_bf (by decide +kernel) ⟨_, rfl, rfl, _, rfl, ite_bt (by decide +kernel) (ite_bt rfl kk')⟩⟩⟩
          | exact ⟨_, rfl, _, rfl, rfl, _, rfl, ite_bf (by decide +kernel) ⟨_, rfl, _, rfl, rfl, _, rfl, ite_bf (by decide +kernel) ⟨_, rfl, rfl, _, rfl, ite_bf (by decide +kernel) ⟨_, rfl, rfl, _, rfl, ite_bt (by decide +kernel) kk'⟩⟩⟩⟩
          | exact ⟨_, rfl, _, rfl, rfl, _, rfl, ite_bf (by decide +kernel) ⟨_, rfl, _, rfl, rfl, _, rfl, ite_bf (by decide +kernel) ⟨_, rfl, rfl, _, rfl, ite_bf (by decide +kernel) ⟨_, rfl, rfl, _, rfl, ite_bf (by decide +kernel) ⟨_, rfl, _, rfl, kk'⟩⟩⟩⟩⟩
      rcases List.mem_cons.mp hw with rfl | hw
      · refine sq_set (fun x G => H = G ∧ x = .str "minus") (fun Q q => ⟨_, rfl, p, _, _, .str "minus", rfl, rfl, SqT.of hp, rfl, q _ _ ⟨rfl, rfl⟩⟩) ?_
        rintro _ _ ⟨rfl, rfl⟩
        refine ⟨_, rfl, (by show 2 ≤ sizeLine; decide), fun u nu => ⟨u, _, rfl, .inr (SqT.of upd_same), rfl, rfl, _, rfl, ite_bf (by decide +kernel) ?_⟩⟩
        have s1 := Lw.Same.new (o := .tup [.str "every", .str "nothing"]) (Same.refl H) nu
        refine ⟨_, rfl, (by show 2 ≤ sizeLine; decide), fun r nr => ⟨r, _, rfl, .inr (SqT.of upd_same), rfl, rfl, _, rfl, ite_bf (by decide +kernel) ?_⟩⟩
        have s2 := s1.trans (Lw.Same.new (o := .tup [.str "empty", .str "compare"]) (Same.refl _) nr)
        generalize upd (upd H u (.tup [.str "every", .str "nothing"])) r (.tup [.str "empty", .str "compare"]) = G at s2
        have hpG := s2 _ _ hp
        dsimp only [tNext]
        refine sq_set (fun x G' => Same G G' ∧ x = tV (sem env s)) (fun Q q => ?_) ?_
        · refine ⟨_, rfl, p, _, _, v1, rfl, rfl, SqT.of hpG, rfl, _, rfl, _, rfl, ?_⟩
          exact ⟨s.depth, Nat.lt_of_lt_of_le (Nat.lt_succ_of_le (Nat.le_max_left _ _)) dp, v1, key, c, env, s, rfl, hs1.same s2, ok1, Nat.le_refl _, he.same s2, fun G' s3 => q _ _ ⟨s3, rfl⟩⟩
        rintro _ G' ⟨s3, rfl⟩
        refine ⟨_, rfl, rfl, _, rfl, strI (fun e => absurd e (by decide +kernel)) (fun _ => ?_)⟩
        dsimp only [tNext]
        refine sq_set (fun x G2 => Same G' G2 ∧ x = tV (sem env t)) (fun Q q => ?_) ?_
        · refine ⟨_, rfl, p, _, _, v2, rfl, rfl, SqT.of (s3 _ _ hpG), rfl, _, rfl, _, rfl, ?_⟩
          exact ⟨t.depth, Nat.lt_of_lt_of_le (Nat.lt_succ_of_le (Nat.le_max_right _ _)) dp, v2, key, c, env, t, rfl, hs2.same (s2.trans s3), ok2, Nat.le_refl _, he.same (s2.trans s3), fun G2 s4 => q _ _ ⟨s4, rfl⟩⟩
        rintro _ G2 ⟨s4, rfl⟩
        have kk' : Q (tV (bin3 "minus" (sem env s) (sem env t))) G2 := kk G2 ((s2.trans s3).trans s4)
        generalize sem env s = a at kk' ⊢
        generalize sem env t = b at kk' ⊢
        have ew : decide (V.str "minus" = V.str "or") = false := by decide +kernel
        refine ⟨_, rfl, rfl, _, rfl, strI (fun _ => ?_) (fun e => absurd rfl e)⟩
        rcases a with _ | _ | _ <;> rcases b with _ | _ | _
        all_goals first
          | refine ⟨_, rfl, rfl, _, rfl, ite_bf (by decide +kernel) ?_⟩
          | refine ⟨_, rfl, rfl, _, rfl, ite_bt (by decide +kernel) ⟨_, rfl, _, rfl, ?_⟩⟩
        all_goals refine ⟨_, rfl, rfl, _, rfl, strI (fun e => absurd e (by decide +kernel)) (fun _ => ?_)⟩
        all_goals refine ⟨_, rfl, rfl, ?_⟩
        all_goals rw [ew]
        all_goals first
          | exact ⟨_, rfl, _, rfl, rfl, _, rfl, ite_bt (by decide +kernel) (ite_bt rfl ⟨_, rfl, kk'⟩)⟩
          | exact ⟨_, rfl, _, rfl, rfl, _, rfl, ite_bf (by decide +kernel) ⟨_, rfl, _, rfl, rfl, _, rfl, ite_bt (by decide +kernel) ⟨_, rfl, kk'⟩⟩⟩
          | exact ⟨_, rfl, _, rfl, rfl, _, rfl, ite_bf (by decide +kernel) ⟨_, rfl, _, rfl, rfl, _, rfl, ite_bf (by decide +kernel) ⟨_, rfl, rfl, _, rfl, ite_bt (by decide +kernel) (ite_bt rfl kk')⟩⟩⟩
          | exact ⟨_, rfl, _, rfl, rfl, _, rfl, ite_bf (by decide +kernel) ⟨_, rfl, _, rfl, rfl, _, rfl, ite_bf (by decide +kernel) ⟨_, rfl, rfl, _, rfl, ite_bf (by decide +kernel) ⟨_, rfl, rfl, _, rfl, ite_bt (by decide +kernel) kk'⟩⟩⟩⟩
          | exact ⟨_, rfl, _, rfl, rfl, _, rfl, ite_bf (by decide +kernel) ⟨_, rfl, _, rfl, rfl, _, rfl, ite_bf (by decide +kernel) ⟨_, rfl, rfl, _, rfl, ite_bf (by decide +kernel) ⟨_, rfl, rfl, _, rfl, ite_bf (by decide +kernel) ⟨_, rfl, _, rfl, kk'⟩⟩⟩⟩⟩
      rcases List.mem_cons.mp hw with rfl | hw
      · refine sq_set (fun x G => H = G ∧ x = .str "differ") (fun Q q => ⟨_, rfl, p, _, _, .str "differ", rfl, rfl, SqT.of hp, rfl, q _ _ ⟨rfl, rfl⟩⟩) ?_
        rintro _ _ ⟨rfl, rfl⟩
        refine ⟨_, rfl, (by show 2 ≤ sizeLine; decide), fun u nu => ⟨u, _, rfl, .inr (SqT.of upd_same), rfl, rfl, _, rfl, ite_bf (by decide +kernel) ?_⟩⟩
        have s1 := Lw.Same.new (o := .tup [.str "every", .str "nothing"]) (Same.refl H) nu
        refine ⟨_, rfl, (by show 2 ≤ sizeLine; decide), fun r nr => ⟨r, _, rfl, .inr (SqT.of upd_same), rfl, rfl, _, rfl, ite_bf (by decide +kernel) ?_⟩⟩
        have s2 := s1.trans (Lw.Same.new (o := .tup [.str "empty", .str "compare"]) (Same.refl _) nr)
        generalize upd (upd H u (.tup [.str "every", .str "nothing"])) r (.tup [.str "empty", .str "compare"]) = G at s2
        have hpG := s2 _ _ hp
        dsimp only [tNext]
        refine sq_set (fun x G' => Same G G' ∧ x = tV (sem env s)) (fun Q q => ?_) ?_
        · refine ⟨_, rfl, p, _, _, v1, rfl, rfl, SqT.of hpG, rfl, _, rfl, _, rfl, ?_⟩
          exact ⟨s.depth, Nat.lt_of_lt_of_le (Nat.lt_succ_of_le (Nat.le_max_left _ _)) dp, v1, key, c, env, s, rfl, hs1.same s2, ok1, Nat.le_refl _, he.same s2, fun G' s3 => q _ _ ⟨s3, rfl⟩⟩
        rintro _ G' ⟨s3, rfl⟩
        refine ⟨_, rfl, rfl, _, rfl, strI (fun e => absurd e (by decide +kernel)) (fun _ => ?_)⟩
        dsimp only [tNext]
        refine sq_set (fun x G2 => Same G' G2 ∧ x = tV (sem env t)) (fun Q q => ?_) ?_
        · refine ⟨_, rfl, p, _, _, v2, rfl, rfl, SqT.of (s3 _ _ hpG), rfl, _, rfl, _, rfl, ?_⟩
          exact ⟨t.depth, Nat.lt_of_lt_of_le (Nat.lt_succ_of_le (Nat.le_max_right _ _)) dp, v2, key, c, env, t, rfl, hs2.same (s2.trans s3), ok2, Nat.le_refl _, he.same (s2.trans s3), fun G2 s4 => q _ _ ⟨s4, rfl⟩⟩
        rintro _ G2 ⟨s4, rfl⟩
        have kk' : Q (tV (bin3 "differ" (sem env s) (sem env t))) G2 := kk G2 ((s2.trans s3).trans s4)
        generalize sem env s = a at kk' ⊢
        generalize sem env t = b at kk' ⊢
        refine ⟨_, rfl, rfl, _, rfl, strI (fun e => absurd e (by decide +kernel)) (fun _ => ite_bf rfl ?_)⟩
        refine ⟨_, rfl, rfl, _, rfl, strI (fun _ => ?_) (fun e => absurd rfl e)⟩
        rcases a with _ | _ | _ <;> rcases b with _ | _ | _
        all_goals first
          | exact ⟨_, rfl, rfl, _, rfl, ite_bt (by decide +kernel) (ite_bt rfl kk')⟩
          | exact ⟨_, rfl, rfl, _, rfl, ite_bf (by decide +kernel) ⟨_, rfl, rfl, _, rfl, ite_bt (by decide +kernel) kk'⟩⟩
          | exact ⟨_, rfl, rfl, _, rfl, ite_bf (by decide +kernel) ⟨_, rfl, rfl, _, rfl, ite_bf (by decide +kernel) ⟨_, rfl, _, rfl, rfl, kk'⟩⟩⟩
      cases hw
end
end Lw

set_option Elab.async false
set_option linter.all false
set_option maxRecDepth 100000
set_option maxHeartbeats 4000000
namespace Lg
open PySem PySem.Spec PyProof.Rows L2
/-! promises of defs that are called where no guard of repr stands -/
structure FnG (P : Program) (w : World) (K : PySem.W.Frag) (mg : Str → Option Value) (base : Heap) (X0 : CXT) (k : Nat) (f : Addr) (fd : FuncData) (ps : List Str) (sp : Sp) : Prop where
  few : ∀ vs H Q E, sp vs H Q E → vs.length = ps.length
  goes : ∀ (A : Around) (fs : List Env) (s : Shared) (H : Hp) (ar : Args) (us : List Value) (vs : List V) (Q : VK) (E : XK), A.guards = some [] → Room k A → Env0 P w K mg base A fs s H → BindsTo s fd ar (ps.zip us) →
    Vals vs us → sp vs H Q E → codeAny (model P w) A (.call (.ref f) ar) (CR X0 fs P w H s Q E) s
section
variable {P : Program} {w : World} {K : PySem.W.Frag} {mg : Str → Option Value} {base : Heap} {X0 : CXT} {k : Nat} {x qual : Str} {params : Arguments} {bd : List Stmt} {scope : Scope} {dvs : List V} {kws : List (Str × V)} {f : Addr} {fd : FuncData} {N ps : List Str} {sp : Sp}
theorem FnG.of (F : FnOk P w K mg base X0 k f fd ps sp) : FnG P w K mg base X0 k f fd ps sp := ⟨F.len, fun A fs s H ar us vs Q E _ => F.run A fs s H ar us vs Q E⟩
/-- such a def's body -/
theorem okG (F : FunD K x qual params bd scope dvs kws f fd) (S : FnScope N ps scope) (few : ∀ vs H Q E, sp vs H Q E → vs.length = ps.length)
    (does : ∀ (cd : Value) (A : Around) (fs : List Env) (s : Shared) (H : Hp) (vs : List V) (Q : VK) (E : XK), (A.deeper (envOfC qual scope s.heap.objs.size f cd)).guards = some [] → Room k (A.deeper (envOfC qual scope s.heap.objs.size f cd)) → sp vs H Q E →
      ∃ t, PSs (cxOf X0 P w K mg base N qual scope f cd A fs s H E) bd t ∧ t { nx := fun _ G => Q .non G, rt := Q } (start N vs) H) : FnG P w K mg base X0 (k + 1) f fd ps sp := by
  obtain ⟨oc, od, dV, kV, doc, pm, an, cd, ct, sl, rfl, here, code, _, _⟩ := F.ex
  constructor
  · exact few
  intro A fs s H ar us vs Q E g room e0 bt rel pr
  have inK : K.In s.heap := e0.mod.kin.keeps fun b o q => (e0.bs b o q).1
  have free : s.heap.NoLimit := e0.mod.nolimit.keeps fun b o q => (e0.bs b o q).1
  have kinds : ∀ y ∈ ps.zip us, scope.names.lookup y.1 = some .local ∨ (scope.names.lookup y.1 = some .cell ∧ ((cellsFrom (s.heap.objs.size + 1) scope.names []).lookup y.1).isSome = true) := by
    rintro ⟨n, v⟩ hy
    have hn := S.par n (List.of_mem_zip hy).1
    exact hn.imp id fun q => ⟨q, PySem.W.cellsFrom_some _ _ _ (.inl q)⟩
  refine codeAny_call_function room.depth (inK _ _ here) rfl S.co S.gen rfl (PySem.W.codeRec_of inK code) (bt _ _ _ _ (wpAny_newFunctionEnv_cells S.kind kinds ?_))
  intro env he s1 st
  cases he
  refine ⟨free.keeps st.toInCall.keep, codeAny_func ?_⟩
  obtain ⟨t, ht, go⟩ := does cd A fs s H vs Q E g (room.deeper _) pr
  have I : Inv (cxOf X0 P w K mg base N qual scope f cd A fs s H E) [] (start N vs) H s1 := inv_start S room.hd e0 (few _ _ _ _ pr) rel st
  have out : ∀ {σ : L2.St} {G : Hp} {v : V} {u : Value} {s2 : Shared}, Inv (cxOf X0 P w K mg base N qual scope f cd A fs s H E) [] σ G s2 → RelV v u → Q v G → CE fs P w H s Q u s2 := by
    intro σ G v u s2 J r q
    exact ⟨v, G, J.os, J.bare, J.base, J.hok, r, q⟩
  apply wpAny_mono (ht.run [] s1 (start N vs) H _ I go)
  · intro fl s2 z
    match fl, z with
    | .ret u, z => obtain ⟨v, σ, G, J, r, q⟩ := z; exact out J r q
    | .next, z => obtain ⟨σ, G, J, q⟩ := z; exact out (u := Value.none) J (show RelV V.non Value.none from rfl) q
    | .brk, z => obtain ⟨_, _, _, q⟩ := z; exact q.elim
    | .cont, z => obtain ⟨_, _, _, q⟩ := z; exact q.elim
  · exact fun _ _ z => z
end
/-! calls -/
structure CalG (P : Program) (w : World) (K : PySem.W.Frag) (mg : Str → Option Value) (base : Heap) (X0 : CXT) (x : Str) (k : Nat) (ps : List Str) (sp : Sp) : Prop where
  ex : ∃ f fd, mg x = some (.ref f) ∧ PySem.W.keepIn K (.ref f) = true ∧ FnG P w K mg base X0 k f fd ps sp ∧ Binds K fd ps []
section
variable {X : Cx} {x : Str} {p pos : Pos} {e : Expr} {es : List Expr} {t : TA} {k : Nat} {ps : List Str} {sp : Sp}
theorem pe_calG (c : CalG X.prog X.w X.K X.mg X.base CX0 x k ps sp) (gd : X.A.guards = some []) (hr : Room k X.A) (ha : PA X (e :: es) t) (hg : Gl X x := by rfl) (hdb : (x == ("__debug__" : Str)) = false := by decide)
    (he : starEach (e :: es) X.env = (false, eval e X.env) :: starEach es X.env := by rfl) (hpl : (backTo pos (starEach es X.env)).any (·.1) = false := by rfl) :
    PE X (.Call (.Name x p) (e :: es) [] pos) (tCall sp [] E0 t) := by
  obtain ⟨f, fd, hm, hk, F, b⟩ := c.ex
  constructor
  intro pins s σ H Q I h
  refine wpAny_Call_Name_kw (ld_glob I hg hm (PySem.W.callWith_K (h₀ := X.base) I.ok.mod.kin hk (thn (ha.run pos pins s σ H _ I h) ?_) he hpl) hdb)
  rintro us s1 ⟨vs, H1, I1, r, q⟩
  rw [List.append_nil] at q
  have n1 : us.length = ps.length := by rw [← r.length]; exact F.few _ _ _ _ q
  have b1 := b s1 us I1.kIn (by rw [List.append_nil]; exact n1)
  rw [List.append_nil] at b1
  refine ⟨I1.kIn, wpAny_call (codeAny_mono (F.goes X.A X.stack s1 H1 ⟨us, []⟩ us vs Q E0 gd hr I1.env0 b1 r q) ?_)⟩
  intro rr s2 z
  match rr, z with
  | .error e, z => exact z.elim
  | .ok (.ret u), z => exact I1.after z
  | .ok .next, z => exact z.elim
  | .ok .brk, z => exact z.elim
  | .ok .cont, z => exact z.elim
end
end Lg

set_option Elab.async false
set_option linter.all false
set_option maxRecDepth 100000
set_option maxHeartbeats 4000000
namespace Lg
open PySem PySem.Spec PyProof.Rows L2
/-- what a law's call comes to -/
abbrev Yes (s₁ : Shared) : Result → Shared → Prop := fun r s' => r = .ok (.ret (.bool true)) ∧ OldK s₁.heap s'.heap ∧ s'.os = s₁.os ∧ AllBare s'.gens
section
variable {P : Program} {w : World} {K : PySem.W.Frag} {mg mb : Str → Option Value} {X0 : CXT} {k : Nat} {fa a : Addr} {fd : FuncData} {x : Str} {sp : Sp} {s₁ : Shared} {vs : List Value} {ns : List Int}
/-- from a heap in which at most the script is told -/
theorem law_from (inK : K.In s₁.heap) (gl : s₁.heap.Ns mainGlobals mg) (bl : s₁.heap.Ns builtinsNs mb) (same : ∀ x : Str, x ≠ "__name__" → mb x = bootBuiltins x) (free : s₁.heap.NoLimit) (none_ : s₁.gens = #[])
    (script : s₁.heap.get? a = some { cls := .type "list", data := .seq vs.toArray }) (room : Room k callerA) (F : ∀ B : Heap, K.In B → B.Ns mainGlobals mg → FnG P w K mg B X0 k fa fd [x] sp)
    (bt : ∀ (s : Shared) (u : Value), BindsTo s fd ⟨[u], []⟩ [(x, u)]) (no : ∀ H e s', X0 [] H s₁ (fun _ _ _ => False) e s' → False) (H : Hp) (only : Only H) (pr : sp [.ref a] H (fun v _ => v = .bl true) fun _ _ _ => False)
    (ok : HOk P w H s₁.heap) (told : ∀ b u, H b = some u → b = a) (out : ∀ u, H a = some u → K.lookup a = none) : codeAny (model P w) callerA (.call (.ref fa) ⟨[.ref a], []⟩) (Yes s₁) s₁ := by
  have low : ∀ {b : Addr} {o : Obj}, s₁.heap.get? b = some o → (∀ u, H b ≠ some u) → (hidT s₁.heap H).get? b = some o := by
    intro b o q n
    refine hidT_get q ?_
    match hb : H b with
    | none => rfl
    | some u => exact absurd hb (n u)
  have names : ∀ {b : Addr} {m : Str → Option Value}, s₁.heap.Ns b m → (hidT s₁.heap H).Ns b m := by
    rintro b m ⟨o, es, ep, q, d, r⟩
    refine ⟨o, es, ep, low q fun u z => ?_, d, r⟩
    cases told b u z
    rw [script] at q
    cases q
    exact absurd (show Data.seq vs.toArray _ = Data.dict es ep from d) (fun z => by cases z)
  have inB : K.In (hidT s₁.heap H) := fun b o q => low (inK b o q) fun u z => by
    cases told b u z
    rw [out u z] at q
    cases q
  have md : Mod K mg (hidT s₁.heap H) := by
    obtain ⟨mc, c1, c2⟩ := free
    exact ⟨inB, names gl, ⟨mb, names bl, same⟩, ⟨mc, names c1, c2⟩⟩
  have nil : ∀ b : Addr, b ∉ frs ([] : List Env) := fun b z => by cases z
  have e0 : Env0 P w K mg (hidT s₁.heap H) callerA [] s₁ H := ⟨rfl, md, fun b o q => of_hidT q, Nat.le_of_eq (hidT_size _ _), trivial, fun b z => absurd z (nil b), ok, .of_eq none_⟩
  apply codeAny_mono ((F _ inB (names gl)).goes callerA [] s₁ H ⟨[.ref a], []⟩ [.ref a] [.ref a] _ _ rfl room e0 (bt s₁ (.ref a)) (.cons rfl .nil) pr)
  intro r s' z
  match r, z with
  | .error e, z => exact (no H e s' z).elim
  | .ok .next, z => exact z.elim
  | .ok .brk, z => exact z.elim
  | .ok .cont, z => exact z.elim
  | .ok (.ret u), z =>
    obtain ⟨v, G, os, bare, un, ok2, r2, q⟩ := z
    cases (show v = .bl true from q)
    cases (show u = Value.bool true from r2)
    refine ⟨rfl, OldK.of_keep ?_, os, bare⟩
    intro b o hb
    rcases only b with n | ⟨ob, xs, y⟩
    · exact un.keep b o hb n (nil b) (fun z => by cases z)
    · have y1 := (ok b _ y).1
      have y2 := (ok2 b _ (un.frzs b ob _ y)).1
      rw [hb] at y1
      cases y1
      exact y2
theorem law_goes (inK : K.In s₁.heap) (gl : s₁.heap.Ns mainGlobals mg) (bl : s₁.heap.Ns builtinsNs mb) (same : ∀ x : Str, x ≠ "__name__" → mb x = bootBuiltins x) (free : s₁.heap.NoLimit) (none_ : s₁.gens = #[])
    (script : s₁.heap.get? a = some { cls := .type "list", data := .seq vs.toArray }) (whole : IntsAre vs ns) (few : ns.length ≤ sizeLine) (room : Room k callerA) (F : ∀ B : Heap, K.In B → B.Ns mainGlobals mg → FnG P w K mg B X0 k fa fd [x] sp)
    (bt : ∀ (s : Shared) (u : Value), BindsTo s fd ⟨[u], []⟩ [(x, u)]) (pr : ∀ H : Hp, Only H → SqL K H a (ns.map V.int) → sp [.ref a] H (fun v _ => v = .bl true) fun _ _ _ => False)
    (no : ∀ H e s', X0 [] H s₁ (fun _ _ _ => False) e s' → False) : codeAny (model P w) callerA (.call (.ref fa) ⟨[.ref a], []⟩) (Yes s₁) s₁ := by
  have rel := vals_ints whole
  have n := whole.length
  by_cases hk : K.lookup a = none
  · have at_a : ∀ b : Addr, b = a → (if b = a then some (HO.frz { cls := .type "list", data := .seq vs.toArray } (.lst (ns.map V.int))) else none) = some (.frz { cls := .type "list", data := .seq vs.toArray } (.lst (ns.map V.int))) := fun b e => if_pos e
    have off : ∀ b : Addr, b ≠ a → (if b = a then some (HO.frz { cls := .type "list", data := .seq vs.toArray } (.lst (ns.map V.int))) else none) = none := fun b e => if_neg e
    have only : Only fun b => if b = a then some (HO.frz { cls := .type "list", data := .seq vs.toArray } (.lst (ns.map V.int))) else none := fun b => by
      rcases Decidable.em (b = a) with e | e
      · exact .inr ⟨_, _, at_a b e⟩
      · exact .inl (off b e)
    refine law_from inK gl bl same free none_ script room F bt no _ only (pr _ only (.inl (.inr ⟨_, at_a a rfl⟩))) ?_ ?_ fun _ _ => hk
    · intro b u z
      try dsimp only at z
      rcases Decidable.em (b = a) with e | e
      · rw [at_a b e] at z
        cases z
        cases e
        exact ⟨script, by rw [List.length_map]; exact few, vs, _, rel, script⟩
      · rw [off b e] at z
        cases z
    · intro b u z
      try dsimp only at z
      rcases Decidable.em (b = a) with e | e
      · exact e
      · rw [off b e] at z
        cases z
  · obtain ⟨o, ho⟩ := Option.ne_none_iff_exists'.mp hk
    have q := inK a o ho
    rw [script] at q
    cases q
    have only : Only fun _ => none := fun _ => .inl rfl
    refine law_from inK gl bl same free none_ script room F bt no _ only (pr _ only (.inr ⟨_, vs.toArray, _, ho, rfl, rfl, rfl, ?_, ?_⟩)) ?_ ?_ ?_
    · rw [List.size_toArray, n]; exact few
    · simpa using rel
    · exact fun b u z => nomatch (show (none : Option HO) = some u from z)
    · exact fun b u z => nomatch (show (none : Option HO) = some u from z)
    · exact fun u z => nomatch (show (none : Option HO) = some u from z)
end
/-- the goal that is left of a law -/
theorem walk_G {l : PySem.W.OpenLaw} {n k : Nat} {q : Program} {loose : List Str} {XP : (Str → Option Value) → Heap → Prop} {YP : World → Heap → Prop} {d : DefRec} {X0 : CXT} {x : Str} (hn : l.most = some n) (hn2 : n ≤ sizeLine) (hdf : d.params.defaults = []) (room : Room k callerA)
    (F : ∀ (w : World) (mg : Str → Option Value) (fa : Addr) (h : Heap), YP w h → h.Ns mainGlobals mg → mg d.name = some (.ref fa) → ∃ (K : PySem.W.Frag) (fd : FuncData) (sp : Sp), K.In h ∧ (∀ (s : Shared) (u : Value), BindsTo s fd ⟨[u], []⟩ [(x, u)]) ∧
      (∀ (H : Hp) (a : Addr) (ns : List Int), ns.length ≤ n → Only H → SqL K H a (ns.map V.int) → sp [.ref a] H (fun v _ => v = .bl true) fun _ _ _ => False) ∧ ∀ B : Heap, K.In B → B.Ns mainGlobals mg → FnG l.prog w K mg B X0 k fa fd [x] sp)
    (no : ∀ (H : Hp) (s : Shared) (e : Value) (s' : Shared), X0 [] H s (fun _ _ _ => False) e s' → False) : PySem.W.WalkO q loose XP YP l.row.toRowW d [] (fun f vs => PySem.call f vs) := by
  apply Att.attach_call hn hdf
  intro w s₀ s₁ mg mb fa o pm cd doc a vs ns G Y ho hd hcd hmg hobj hints hlen hg
  obtain ⟨K, fd, sp, inK, bt, pr, go⟩ := F w mg fa _ Y G.T.g hmg
  exact law_goes inK G.T.g G.T.b G.T.builtins G.T.nolimit hg hobj hints (Nat.le_trans hlen hn2) room go bt (fun H o s => pr H a ns hlen o s) fun H e s' => no H s₁ e s'
end Lg

set_option Elab.async false
set_option linter.all false
set_option maxRecDepth 100000
set_option maxHeartbeats 4000000
namespace Lg
open PySem PySem.Spec PyProof.Rows L2
/-! values as data, dicts too -/
def kD : Key → PyData
  | .inl i => .int i
  | .inr z => .str z
mutual
inductive Da (H : Hp) : V → PyData → Prop where
  | non : Da H .non .none
  | bl (b : Bool) : Da H (.bl b) (.bool b)
  | int (i : Int) : Da H (.int i) (.int i)
  | str (z : Str) : Da H (.str z) (.str z)
  | lst {a : Addr} {xs : List V} {ds : List PyData} (h : H a = some (.lst xs)) (all : DaAll H xs ds) : Da H (.ref a) (.list ds)
  | tup {a : Addr} {xs : List V} {ds : List PyData} (h : H a = some (.tup xs)) (all : DaAll H xs ds) : Da H (.ref a) (.tuple ds)
  | dic {a : Addr} {kvs : List (Key × V)} {ds : List PyData} (h : H a = some (.dK kvs)) (all : DaAll H (kvs.map (·.2)) ds) : Da H (.ref a) (.dict ((kvs.map fun p => kD p.1).zip ds))
inductive DaAll (H : Hp) : List V → List PyData → Prop where
  | nil : DaAll H [] []
  | cons {v : V} {vs : List V} {d : PyData} {ds : List PyData} (h : Da H v d) (all : DaAll H vs ds) : DaAll H (v :: vs) (d :: ds)
end
mutual
theorem Da.same {H G : Hp} (s : Same H G) : ∀ {v : V} {d : PyData}, Da H v d → Da G v d
  | _, _, .non => .non
  | _, _, .bl b => .bl b
  | _, _, .int i => .int i
  | _, _, .str z => .str z
  | _, _, .lst h all => .lst (s _ _ h) (DaAll.same s all)
  | _, _, .tup h all => .tup (s _ _ h) (DaAll.same s all)
  | _, _, .dic h all => .dic (s _ _ h) (DaAll.same s all)
theorem DaAll.same {H G : Hp} (s : Same H G) : ∀ {vs : List V} {ds : List PyData}, DaAll H vs ds → DaAll G vs ds
  | _, _, .nil => .nil
  | _, _, .cons h all => .cons (Da.same s h) (DaAll.same s all)
end
theorem DaAll.length {H : Hp} : ∀ {vs : List V} {ds : List PyData}, DaAll H vs ds → vs.length = ds.length
  | _, _, .nil => rfl
  | _, _, .cons _ all => by rw [List.length_cons, List.length_cons, DaAll.length all]
/-- the interpreter's own table of modules stands in K -/
def SysIn (K : PySem.W.Frag) : Prop := ∃ o, K.lookup sysModules = some o ∧ o.cls = .type "dict"
section
variable {X : Cx} {pins : List (Addr × Obj)} {σ : L2.St} {H : Hp} {s : Shared}
theorem key_reads {h : Heap} {k : Key} {u : Value} (e : (mixKind X.prog X.w).is k u = true) : Reads h u (kD k) [] := by
  rcases keyIs_shape e with ⟨i, t, rfl, rfl⟩ | ⟨z, t, rfl, rfl⟩
  · exact Reads.int i t
  · exact Reads.str z t
theorem ne_sys (I : Inv X pins σ H s) (y : SysIn X.K) {a : Addr} {o : Obj} (h : s.heap.get? a = some o) (c : o.cls ≠ .type "dict") : sysModules ≠ a := by
  rintro rfl
  obtain ⟨u, hu, cu⟩ := y
  have q := I.kIn _ _ hu
  rw [h] at q
  cases q
  exact c cu
theorem keys_read {h : Heap} : ∀ {es : List DictEntry} {kvs : List (Key × Value)}, Pairs (mixKind X.prog X.w) es kvs → ReadsAll h (es.map (·.key)) (kvs.map fun p => kD p.1) [] ∧ es.map (·.val) = kvs.map (·.2)
  | _, _, .nil => ⟨.nil, rfl⟩
  | _, _, .cons k v r => by
    obtain ⟨r1, r2⟩ := keys_read (h := h) r
    exact ⟨ReadsAll.cons (key_reads k) r1, by rw [List.map_cons, List.map_cons, r2, v]⟩
theorem kv_split : ∀ {kvs : List (Key × V)} {vs : List (Key × Value)}, KV kvs vs → vs.map (fun p => kD p.1) = kvs.map (fun p => kD p.1) ∧ Vals (kvs.map (·.2)) (vs.map (·.2))
  | _, _, .nil => ⟨rfl, .nil⟩
  | _, _, .cons h r => by
    obtain ⟨r1, r2⟩ := kv_split r
    exact ⟨by rw [List.map_cons, List.map_cons, r1, h.1], .cons h.2 r2⟩
theorem zip_fst : ∀ {as bs : List PyData}, as.length = bs.length → (as.zip bs).map (·.1) = as ∧ (as.zip bs).map (·.2) = bs
  | [], [], _ => ⟨rfl, rfl⟩
  | a :: as, b :: bs, h => by
    obtain ⟨r1, r2⟩ := zip_fst (as := as) (bs := bs) (by simpa using h)
    exact ⟨by rw [List.zip_cons_cons, List.map_cons, r1], by rw [List.zip_cons_cons, List.map_cons, r2]⟩
mutual
theorem Da.reads (I : Inv X pins σ H s) (y : SysIn X.K) : ∀ {v : V} {d : PyData} {u : Value}, Da H v d → RelV v u → ∃ as, Reads s.heap u d as ∧ sysModules ∉ as
  | _, _, u, .non, r => by cases (show u = Value.none from r); exact ⟨_, Reads.none, List.not_mem_nil⟩
  | _, _, u, .bl b, r => by cases (show u = Value.bool b from r); exact ⟨_, Reads.bool b, List.not_mem_nil⟩
  | _, _, u, .int i, r => by obtain ⟨t, e⟩ := (show ∃ t, u = Value.int i t from r); cases e; exact ⟨_, Reads.int i t, List.not_mem_nil⟩
  | _, _, u, .str z, r => by obtain ⟨t, e⟩ := (show ∃ t, u = Value.str z t from r); cases e; exact ⟨_, Reads.str z t, List.not_mem_nil⟩
  | _, _, u, .lst (a := a) (xs := xs) h all, r => by
    cases (show u = Value.ref a from r)
    obtain ⟨_, its, n, rv, ho⟩ := (show ObjOk X.prog X.w H s.heap a (.lst xs) from I.hok a _ h)
    obtain ⟨as, q, n1⟩ := DaAll.reads I y all rv
    refine ⟨_, Reads.list ho rfl rfl (by simpa using q), ?_⟩
    rintro (_ | _)
    · exact ne_sys I y ho (by simp) rfl
    · rename_i z; exact n1 z
  | _, _, u, .tup (a := a) (xs := xs) h all, r => by
    cases (show u = Value.ref a from r)
    obtain ⟨_, its, rv, o, ho, hc, n, hd⟩ := (show ObjOk X.prog X.w H s.heap a (.tup xs) from I.hok a _ h)
    obtain ⟨as, q, n1⟩ := DaAll.reads I y all rv
    exact ⟨_, Reads.tuple ho hc hd (by simpa using q), n1⟩
  | _, _, u, .dic (a := a) (kvs := kvs) (ds := ds) h all, r => by
    cases (show u = Value.ref a from r)
    obtain ⟨_, ns, vs, kv, o, es, ep, ho, hx, hd, _, ps, _⟩ := (show ObjOk X.prog X.w H s.heap a (.dK kvs) from I.hok a _ h)
    obtain ⟨k1, k2⟩ := keys_read (h := s.heap) ps
    obtain ⟨k3, k4⟩ := kv_split kv
    obtain ⟨as, q, n1⟩ := DaAll.reads I y all k4
    have ln : (kvs.map fun p => kD p.1).length = ds.length := by rw [List.length_map, ← all.length, List.length_map]
    obtain ⟨z1, z2⟩ := zip_fst ln
    refine ⟨_, Reads.dict ho hx.1 hd (as := []) (by rw [z1, ← k3]; exact k1) (by rw [z2, k2]; exact q), ?_⟩
    rintro (_ | _)
    · exact absurd ns (by simp)
    · rename_i z; exact n1 z
theorem DaAll.reads (I : Inv X pins σ H s) (y : SysIn X.K) : ∀ {vs : List V} {ds : List PyData} {us : List Value}, DaAll H vs ds → Vals vs us → ∃ as, ReadsAll s.heap us ds as ∧ sysModules ∉ as
  | _, _, _, .nil, .nil => ⟨_, ReadsAll.nil, List.not_mem_nil⟩
  | _, _, _, .cons h all, .cons r rs => by
    obtain ⟨as, q1, n1⟩ := Da.reads I y h r
    obtain ⟨bs, q2, n2⟩ := DaAll.reads I y all rs
    exact ⟨_, ReadsAll.cons q1 q2, fun z => (List.mem_append.mp z).elim n1 n2⟩
end
/-- repr of data -/
def rRepr : List V → Hp → VK → Prop := fun xs H Q => ∃ (v : V) (d : PyData), xs = [v] ∧ Da H v d ∧ d.showable = true ∧ d.depth ≤ 16 ∧ d.shown.length ≤ sizeLine ∧ Q (.str d.shown) H
theorem call_repr (y : SysIn X.K) (g : X.A.guards = some []) (room : X.A.units + 200 < cLine) : CallR X (.builtin "repr") rRepr := by
  intro pins s σ H xs us Q I r h
  obtain ⟨v, d, rfl, hd, hs, dp, sz, q⟩ := h
  obtain ⟨u, rfl, rv⟩ := vals1 r
  obtain ⟨as, rd, nm⟩ := Da.reads I y hd rv
  have big : ∀ b : Addr, u = .ref b → wpAny (model X.prog X.w) X.A (call (.builtin "repr") [u]) (EP X pins σ Q) X.xe s := by
    rintro b rfl
    exact PySem.repr_of_reads' rd hs (fun _ => nm) g (by omega) (fun _ _ e => e) (fun h' t tk kept => ⟨.str _, H, I.kept kept, ⟨t, rfl⟩, q⟩) sz
  cases hd with
  | non => cases (show u = Value.none from rv); exact PySem.P.repr_of_none ⟨.str "None", H, I.tok _, ⟨_, rfl⟩, q⟩
  | bl b => cases (show u = Value.bool b from rv); exact PySem.P.repr_of_bool ⟨.str _, H, I.tok _, ⟨_, rfl⟩, q⟩
  | int i => obtain ⟨t, e⟩ := (show ∃ t, u = Value.int i t from rv); cases e; exact PySem.P.repr_of_int (of_decide_eq_true hs) ⟨.str _, H, I.tok _, ⟨_, rfl⟩, q⟩
  | str z => obtain ⟨t, e⟩ := (show ∃ t, u = Value.str z t from rv); cases e; exact PySem.P.repr_of_str ⟨.str _, H, I.tok _, ⟨_, rfl⟩, q⟩ sz
  | lst h all => exact big _ rv
  | tup h all => exact big _ rv
  | dic h all => exact big _ rv
end
end Lg

set_option Elab.async false
set_option linter.all false
set_option maxRecDepth 100000
set_option maxHeartbeats 4000000
namespace Oe
open PySem PySem.Spec PyProof.Rows L2
/-! == and != of an instance with an own __eq__ -/
/-- what it is compared with, and the type of that -/
inductive Cv (C : Addr) (H : Hp) : V → Value → Prop where
  | ins {b dx : Addr} {fs : List (Str × V)} (h : H b = some (.ins C dx fs)) : Cv C H (.ref b) (.ref C)
  | non : Cv C H .non (.type "NoneType")
  | str (z : Str) : Cv C H (.str z) (.type "str")
  | tup {p : Addr} {xs : List V} (h : H p = some (.tup xs)) : Cv C H (.ref p) (.type "tuple")
  | lst {p : Addr} {xs : List V} (h : H p = some (.lst xs)) : Cv C H (.ref p) (.type "list")
section
variable {X : Cx} {pins : List (Addr × Obj)} {σ : L2.St} {H : Hp} {s : Shared} {C : Addr}
theorem looks_ty {v : Value} {T : String} (h : ∀ s' : Shared, (∀ b o, s.heap.get? b = some o → s'.heap.get? b = some o) → s'.TypeIs v T) : PySem.W.Looks (model X.prog X.w) s.heap (typeOf v) (.type T) :=
  fun A Q E s' kept q => wpAny_typeOf (h s' kept) q
theorem Cv.looks (I : Inv X pins σ H s) {y : V} {u t : Value} (c : Cv C H y t) (r : RelV y u) : PySem.W.Looks (model X.prog X.w) s.heap (typeOf u) t := by
  cases c with
  | @ins b dx fs h =>
    cases (show u = Value.ref b from r)
    obtain ⟨m, J, _⟩ := ins_get I.hok h
    obtain ⟨od, J, _⟩ := J.look
    exact J.type
  | non => cases (show u = Value.none from r); exact looks_ty fun _ _ => rfl
  | str z => obtain ⟨t, e⟩ := (show ∃ t, u = Value.str z t from r); cases e; exact looks_ty fun _ _ => rfl
  | @tup p xs h =>
    cases (show u = Value.ref p from r)
    obtain ⟨_, its, rv, o, ho, hc, n, hd⟩ := (show ObjOk X.prog X.w H s.heap p (.tup xs) from I.hok p _ h)
    exact looks_ty fun s' kept => ⟨o, kept _ _ ho, hc⟩
  | @lst p xs h =>
    cases (show u = Value.ref p from r)
    obtain ⟨_, its, n, rv, ho⟩ := (show ObjOk X.prog X.w H s.heap p (.lst xs) from I.hok p _ h)
    exact looks_ty fun s' kept => ⟨_, kept _ _ ho, rfl⟩
/-- an own def, called below -/
theorem own_call {A : Around} {Ex : Value → Shared → Prop} {k : Nat} {f : Addr} {fd : FuncData} {ps : List Str} {sp : Sp} {us : List Value} {vs : List V} {Q : VK} (fr : A.frames = some X.stack) (room : Room k A) (F : FnOk X.prog X.w X.K X.mg X.base CX0 k f fd ps sp)
    (bt : Binds X.K fd ps []) (I : Inv X pins σ H s) (r : Vals vs us) (pr : sp vs H Q E0) : wpAny (model X.prog X.w) A (call (.ref f) us) (EP X pins σ Q) Ex s := by
  have e := I.env0
  have n : us.length = ps.length := by rw [← r.length]; exact F.len _ _ _ _ pr
  have b1 := bt s us I.kIn (by rw [List.append_nil]; exact n)
  rw [List.append_nil] at b1
  refine wpAny_call (codeAny_mono (F.run A X.stack s H ⟨us, []⟩ us vs Q E0 room ⟨fr, e.mod, e.bs, e.bsz, e.funs, e.frf, e.hok, e.bare⟩ b1 r pr) ?_)
  intro rr s2 z
  match rr, z with
  | .error e, z => exact z.elim
  | .ok (.ret u), z => exact I.after z
  | .ok .next, z => exact z.elim
  | .ok .brk, z => exact z.elim
  | .ok .cont, z => exact z.elim
/-- what a class with an own __eq__ and no own __ne__ has -/
structure EqC (K : PySem.W.Frag) (C f : Addr) : Prop where
  eq : PySem.W.findIn K (.ref C) "__eq__" = some (some (.ref f))
  ne : PySem.W.findIn K (.ref C) "__ne__" = some (some (.builtin "object.__ne__"))
  fn : PySem.W.isFn K (.ref f) = true
  ob : PySem.W.mroIn K C (.type "object") = some true
def rOwn (K : PySem.W.Frag) (C : Addr) (sp : Sp) (g : Bool → Bool) : R2 := fun x y H Q => ∃ (a dx : Addr) (fs : List (Str × V)) (t : Value), x = .ref a ∧ H a = some (.ins C dx fs) ∧ Cv C H y t ∧ PySem.W.notFirst K C t = true ∧
  sp [.ref a, y] H (fun v H' => ∃ b, v = .bl b ∧ Q (.bl (g b)) H') E0
variable {k : Nat} {f : Addr} {fd : FuncData} {ps : List Str} {sp : Sp}
theorem op_eqI (E : EqC X.K C f) (F : FnOk X.prog X.w X.K X.mg X.base CX0 k f fd ps sp) (bt : Binds X.K fd ps []) (room : Room k X.A) : OpR X (compareOp .Eq) (rOwn X.K C sp id) := by
  intro pins s σ H x y u v Q I rx ry h
  obtain ⟨a, dx, fs, t, rfl, ha, c, nf, pr⟩ := h
  cases (show u = Value.ref a from rx)
  obtain ⟨m, J, _⟩ := ins_get I.hok ha
  obtain ⟨od, J, _⟩ := J.look
  have fr := I.ok.frames
  obtain ⟨m2, hF⟩ := I.fr
  show wpAny (model X.prog X.w) X.A (richCompare .Eq (.ref a) v) (EP X pins σ Q) X.xe s
  refine PySem.W.cmp_K (op := .Eq) room.units0 hF I.ok.mod.kin J (c.looks I ry) nf E.eq E.fn (thn (own_call fr room F bt I (vs := [.ref a, y]) (.cons (show RelV (.ref a) (Value.ref a) from rfl) (.cons ry .nil)) pr) ?_)
  rintro r s2 ⟨z, H2, I2, rz, b, rfl, q⟩
  cases (show r = Value.bool b from rz)
  exact ⟨.bl b, H2, I2, rfl, q⟩
/-- object.__ne__ on such an instance: its own __eq__ is asked -/
theorem ne_entry {A : Around} {R : Fin → Shared → Prop} {Ex : Value → Shared → Prop} {a : Addr} {ox : Obj} {od : Option Obj} {u : Value} (hu : A.units < cLine) (E : EqC X.K C f) (KI : X.K.In s.heap) (J : PySem.W.InstAt s.heap a ox C od)
    (h : wpAny (model X.prog X.w) A (call (.ref f) [.ref a, u]) (fun r s' => ∃ b, r = .bool b ∧ R (.done (.ret (.bool (!b)))) s') Ex s) : wpAny (model X.prog X.w) A (Builtin.«object.__ne__» ⟨[.ref a, u], []⟩) R Ex s := by
  unfold Builtin.«object.__ne__»
  show wpAny _ _ (slotArgs "__ne__" 1 ⟨[.ref a, u], []⟩ >>= _) _ _ s
  refine wpAny_bind (wpAny_of_eq (rfl : slotArgs "__ne__" 1 ⟨[.ref a, u], []⟩ = pure (.ref a, [u])) ?_)
  refine wpAny_bind (wpAny_cRoomFor hu (wpAny_bind ?_))
  refine PySem.W.ifBound_K KI J E.eq E.fn (wpAny_mono h ?_ fun _ _ z => z)
  rintro r s' ⟨b, rfl, q⟩
  exact wpAny_bind (wpAny_truthy_bool (wpAny_pure q))
theorem ne_call {A : Around} {R : Value → Shared → Prop} {Ex : Value → Shared → Prop} {a : Addr} {ox : Obj} {od : Option Obj} {u : Value} (hu : A.units + 1 < cLine) (E : EqC X.K C f) (KI : X.K.In s.heap) (J : PySem.W.InstAt s.heap a ox C od)
    (h : wpAny (model X.prog X.w) A.in1 (call (.ref f) [.ref a, u]) (fun r s' => ∃ b, r = .bool b ∧ R (.bool (!b)) s') (fun _ _ => False) s) : wpAny (model X.prog X.w) A (tryCompare (.ref a) "__ne__" u) (fun r s' => ∃ v, r = some v ∧ v ≠ .notImplemented ∧ R v s') Ex s := by
  have run : wpAny (model X.prog X.w) A (call (.builtin "object.__ne__") [.ref a, u]) (fun v s' => ∃ b, v = .bool b ∧ R v s') Ex s := by
    refine wpAny_call (codeAny_call_builtin F.cmp_object.ne.plain F.cmpEntry_ne (PySem.W.check_slot F.cmpKind_ne F.cmpSplit_ne (J.type.andThen (PySem.W.looks_mroIn KI E.ob)) (F.cmpArgs_ne _ _) ?_))
    refine ne_entry (by show A.units + 1 < cLine; exact hu) E KI J (wpAny_mono h ?_ fun _ _ z => z.elim)
    rintro r s' ⟨b, rfl, q⟩
    exact ⟨b, rfl, _, rfl, q⟩
  unfold tryCompare
  have last : wpAny (model X.prog X.w) A (callSpecialIfBound? (.ref a) "__ne__" [u]) (fun r s' => ∃ b, r = some (.bool b) ∧ R (.bool b) s') Ex s := by
    simp only [callSpecialIfBound?, bindSpecialIfBound?]
    refine wpAny_holding (wpAny_bind (wpAny_bind (wpAny_bind (J.type.here ((PySem.W.looks_findIn KI E.ne).here (wpAny_bind (wpAny_askSetting (wpAny_ite ?_))))))))
    have go : wpAny (model X.prog X.w) A (call (.builtin "object.__ne__") ([.ref a] ++ [u]) >>= fun v => pure (some v)) (fun r s' => ∃ b, r = some (.bool b) ∧ R (.bool b) s') Ex s := by
      refine wpAny_bind (wpAny_mono run ?_ fun _ _ z => z)
      rintro v s' ⟨b, rfl, q⟩
      exact wpAny_pure ⟨b, rfl, q⟩
    split
    · exact wpAny_bind (wpAny_of_eq (F.cmp_object.ne.bind _) (wpAny_pure (by exact go)))
    · exact wpAny_tryCatch (wpAny_bind (wpAny_of_eq (F.cmp_object.ne.bind _) (wpAny_pure (by exact go))))
  refine wpAny_bind (wpAny_mono last ?_ fun _ _ z => z)
  rintro r s' ⟨b, rfl, q⟩
  exact wpAny_pure ⟨_, rfl, (fun z => by cases z), q⟩
theorem rich_ne {R : Value → Shared → Prop} {Ex : Value → Shared → Prop} {A : Around} {a : Addr} {ox : Obj} {od : Option Obj} {u t : Value} (hu : A.units < cLine) (KI : X.K.In s.heap) (J : PySem.W.InstAt s.heap a ox C od) (look : PySem.W.Looks (model X.prog X.w) s.heap (typeOf u) t)
    (nf : PySem.W.notFirst X.K C t = true) (h : wpAny (model X.prog X.w) A (tryCompare (.ref a) "__ne__" u) (fun r s' => ∃ v, r = some v ∧ v ≠ .notImplemented ∧ R v s') Ex s) : wpAny (model X.prog X.w) A (richCompare .NotEq (.ref a) u) R Ex s := by
  have sub : t = .ref C ∨ PySem.W.subIn X.K t (.ref C) = some false := (Bool.or_eq_true_iff.mp nf).imp beq_iff_eq.mp beq_iff_eq.mp
  have go : ∀ K2 : Option Value → Sem Value, (∀ v, K2 (some v) = pure v) → wpAny (model X.prog X.w) A (tryCompare (.ref a) "__ne__" u >>= K2) R Ex s := by
    intro K2 e
    refine wpAny_bind (wpAny_mono h ?_ fun _ _ z => z)
    rintro r s' ⟨v, rfl, _, q⟩
    rw [e v]
    exact wpAny_pure q
  unfold richCompare
  simp only [oneThing_ref]
  refine wpAny_holding (wpAny_bind (wpAny_cRoomFor hu (wpAny_bind (J.type.here (wpAny_bind (look.here ?_))))))
  split
  · rename_i q
    rcases sub with e | e
    · rw [e] at q
      simp at q
    · refine wpAny_bind ((PySem.W.looks_subIn KI e).here ?_)
      simp only [Bool.false_eq_true, if_false]
      exact go _ fun _ => rfl
  · refine wpAny_bind (wpAny_pure ?_)
    simp only [Bool.false_eq_true, if_false]
    exact go _ fun _ => rfl
theorem op_neI (E : EqC X.K C f) (F : FnOk X.prog X.w X.K X.mg X.base CX0 k f fd ps sp) (bt : Binds X.K fd ps []) (room : Room (k + 1) X.A) : OpR X (compareOp .NotEq) (rOwn X.K C sp Bool.not) := by
  intro pins s σ H x y u v Q I rx ry h
  obtain ⟨a, dx, fs, t, rfl, ha, c, nf, pr⟩ := h
  cases (show u = Value.ref a from rx)
  obtain ⟨m, J, _⟩ := ins_get I.hok ha
  obtain ⟨od, J, _⟩ := J.look
  have fr := I.ok.frames
  have r1 : Room k X.A.in1 := room.in1
  show wpAny (model X.prog X.w) X.A (richCompare .NotEq (.ref a) v) (EP X pins σ Q) X.xe s
  refine rich_ne room.units0 I.kIn J (c.looks I ry) nf (ne_call r1.units0 E I.kIn J (thn (own_call (A := X.A.in1) fr r1 F bt I (vs := [.ref a, y]) (.cons (show RelV (.ref a) (Value.ref a) from rfl) (.cons ry .nil)) pr) ?_))
  rintro r s2 ⟨z, H2, I2, rz, b, rfl, q⟩
  cases (show r = Value.bool b from rz)
  exact ⟨b, rfl, .bl (!b), H2, I2, rfl, q⟩
end
end Oe

set_option Elab.async false
set_option linter.all false
set_option maxRecDepth 100000
set_option maxHeartbeats 2000000
namespace Ob
open PySem PySem.Spec PyProof.Rows L2
/-! one op other, ~one: instances of one class with own operators -/
structure BinC (K : PySem.W.Frag) (C : Addr) (op : Operator) (f : Addr) : Prop where
  self : PySem.W.selfFirst K C = true
  at_ : PySem.W.findIn K (.ref C) (PySem.dunder op.info.2) = some (some (.ref f))
  fn : PySem.W.isFn K (.ref f) = true
def rBin (C : Addr) (sp : Sp) : R2 := fun x y H Q => ∃ (a dx b dy : Addr) (fs gs : List (PySem.Str × V)), x = .ref a ∧ H a = some (.ins C dx fs) ∧ y = .ref b ∧ H b = some (.ins C dy gs) ∧ sp [.ref a, .ref b] H (fun v G => (∃ r, v = .ref r) ∧ Q v G) E0
def rInv (C : Addr) (sp : Sp) : V → Hp → VK → Prop := fun x H Q => ∃ (a dx : Addr) (fs : List (PySem.Str × V)), x = .ref a ∧ H a = some (.ins C dx fs) ∧ sp [.ref a] H Q E0
section
variable {X : Cx} {C f : Addr} {k : Nat} {fd : FuncData} {ps : List PySem.Str} {sp : Sp}
theorem op_binO {op : Operator} (W : BinC X.K C op f) (F : FnOk X.prog X.w X.K X.mg X.base CX0 k f fd ps sp) (bt : Binds X.K fd ps []) (room : Room k X.A) : OpR X (binaryOp op) (rBin C sp) := by
  rintro pins s σ H x y u v Q I rx ry ⟨a, dx, b, dy, fs, gs, rfl, ha, rfl, hb, pr⟩
  cases (show u = Value.ref a from rx)
  cases (show v = Value.ref b from ry)
  obtain ⟨m, J, _⟩ := ins_get I.hok ha
  obtain ⟨od, J, _⟩ := J.look
  obtain ⟨m', J', _⟩ := ins_get I.hok hb
  obtain ⟨od', J', _⟩ := J'.look
  have fr := I.ok.frames
  obtain ⟨m2, hF⟩ := I.fr
  refine PySem.W.binop_K hF I.ok.mod.kin J J'.type W.self W.at_ W.fn (thn (Oe.own_call fr room F bt I (vs := [.ref a, .ref b]) (.cons (show RelV (.ref a) (Value.ref a) from rfl) (.cons (show RelV (.ref b) (Value.ref b) from rfl) .nil)) pr) ?_)
  rintro r s2 ⟨z, H2, I2, rz, ⟨q, rfl⟩, h⟩
  cases (show r = Value.ref q from rz)
  exact ⟨.ref q, H2, I2, rfl, h⟩
theorem op_invO (at_ : PySem.W.findIn X.K (.ref C) "__invert__" = some (some (.ref f))) (fn : PySem.W.isFn X.K (.ref f) = true) (F : FnOk X.prog X.w X.K X.mg X.base CX0 k f fd ps sp) (bt : Binds X.K fd ps []) (room : Room k X.A) : UnR X (unaryOp .Invert) (rInv C sp) := by
  rintro pins s σ H x u Q I rx ⟨a, dx, fs, rfl, ha, pr⟩
  cases (show u = Value.ref a from rx)
  obtain ⟨m, J, _⟩ := ins_get I.hok ha
  obtain ⟨od, J, _⟩ := J.look
  have fr := I.ok.frames
  unfold unaryOp
  refine wpAny_holding ?_
  show wpAny _ _ (callSpecial? (.ref a) "__invert__" _ >>= _) _ _ s
  refine wpAny_bind (PySem.W.special_fn I.kIn J at_ (beq_iff_eq.mp fn) ?_)
  refine wpAny_mono (Oe.own_call fr room F bt I (vs := [.ref a]) (.cons (show RelV (.ref a) (Value.ref a) from rfl) .nil) pr) ?_ fun _ _ e => e
  rintro r s2 h
  exact wpAny_pure h
end
end Ob

set_option Elab.async false
set_option linter.all false
set_option maxRecDepth 100000
set_option maxHeartbeats 2000000
namespace Sm
open PySem PySem.Spec PyProof.Rows L2
/-! C.m(), m a staticmethod of the class at C -/
structure SMet (K : PySem.W.Frag) (C : Addr) (mc : Value) (m : PySem.Str) (p g : Addr) : Prop where
  at_ : PySem.W.findCls K (.ref C) mc m = some (.get (.builtin "staticmethod.__get__") (.ref p) .none (.ref C))
  rc : ∃ rest, PySem.W.recIn K p "staticmethod" = some (.ref g :: rest)
  kp : PySem.W.keepIn K (.ref g) = true
section
variable {X : Cx} {CX : CXT} {k : Nat} {C p g : Addr} {fd : FuncData} {ps : List PySem.Str} {mc : Value} {sp : Sp} {E : XK} {o : Expr} {m : PySem.Str} {pos apos : Pos} {ta : TE} {pl : Sem Bool}
theorem pe_smeth0 (he : PE X o ta) (r : ClX.CRead X.K C mc) (c : SMet X.K C mc m p g) (F : FnOk X.prog X.w X.K X.mg X.base CX k g fd ps sp) (hr : Room k X.A) (hb : Binds X.K fd ps []) (hx : Passes CX X E)
    (ht : eval (.Call (.Attribute o m apos) [] [] pos) X.env = (do
      let a ← eval o X.env
      standAt apos.atName
      let (f, first) ← holding [a] (getMethod a m pl)
      callWith pos f first (backTo pos (starEach [] X.env)) (backToKw pos (keywordEach [] X.env))) := by rfl) :
    PE X (.Call (.Attribute o m apos) [] [] pos) (fun σ H Q => ta σ H fun x G => x = .ref C ∧ sp [] G Q E) := by
  constructor
  intro pins s σ H Q I h
  refine PySem.W.methodCall_KW (pl := pl) (thn (he.run pins s σ H _ I h) ?_) ht
  rintro u s1 ⟨x, G, I1, rx, rfl, q⟩
  obtain rfl : u = Value.ref C := rx
  obtain ⟨rest, hp⟩ := c.rc
  refine PySem.W.method_cls I1.kIn r.ga (PySem.W.cls_bind I1.kIn r.rd c.at_ (wpAny_call (PySem.W.sm_get (s := { s1 with toks := s1.toks + 1 }) I1.kIn hp (PySem.W.handed_on rfl ?_))))
  have I2 := I1.tok (s1.toks + 1)
  exact PySem.W.callWith_K0 (first := []) I2.kIn c.kp (run_fn (us := []) (vs := []) F hr hb .nil hx I2 .nil q)
end
end Sm

set_option Elab.async false
set_option linter.all false
set_option maxRecDepth 100000
set_option maxHeartbeats 2000000
namespace Oc
open PySem PySem.Spec PyProof.Rows L2
/-! x in y, y an instance with an own __contains__ -/
structure InC (K : PySem.W.Frag) (C f : Addr) : Prop where
  at_ : PySem.W.findIn K (.ref C) "__contains__" = some (some (.ref f))
  fn : PySem.W.isFn K (.ref f) = true
def rIn (C : Addr) (sp : Sp) (g : Bool → Bool) : R2 := fun x y H Q => ∃ (a dx : Addr) (fs : List (Str × V)), y = .ref a ∧ H a = some (.ins C dx fs) ∧ sp [.ref a, x] H (fun v G => ∃ b, v = .bl b ∧ Q (.bl (g b)) G) E0
section
variable {X : Cx} {C f : Addr} {k : Nat} {fd : FuncData} {ps : List Str} {sp : Sp}
theorem op_inO (W : InC X.K C f) (F : FnOk X.prog X.w X.K X.mg X.base CX0 k f fd ps sp) (bt : Binds X.K fd ps []) (room : Room k X.A) : OpR X (compareOp .In) (rIn C sp id) := by
  rintro pins s σ H x y u v Q I rx ry ⟨a, dx, fs, rfl, ha, pr⟩
  cases (show v = Value.ref a from ry)
  obtain ⟨m, J, _⟩ := ins_get I.hok ha
  obtain ⟨od, J, _⟩ := J.look
  have fr := I.ok.frames
  obtain ⟨m2, hF⟩ := I.fr
  refine PySem.W.in_K hF I.ok.mod.kin J W.at_ W.fn (thn (Oe.own_call fr room F bt I (vs := [.ref a, x]) (.cons (show RelV (.ref a) (Value.ref a) from rfl) (.cons rx .nil)) pr) ?_)
  rintro r s2 ⟨z, H2, I2, rz, b, rfl, q⟩
  cases (show r = Value.bool b from rz)
  exact wpAny_truthy_bool ⟨.bl b, H2, I2, rfl, q⟩
end
end Oc

set_option Elab.async false
set_option linter.all false
set_option maxRecDepth 100000
set_option maxHeartbeats 4000000
namespace Lw
open PySem PySem.Spec PyProof.Rows L2
abbrev sSub : Stmt := inClass (top 37) 6
section
variable {P : Program} {w : World} {K : PySem.W.Frag} {mg : Str → Option Value} {base : Heap}
/-! a def that calls itself on what is less deep -/
theorem by_depth {x : Str} {f : Addr} {fd : FuncData} {ps : List Str} {spd : Nat → Sp} (c : Nat) (gx : mg x = some (.ref f)) (kp : PySem.W.keepIn K (.ref f) = true) (bt : Binds K fd ps [])
    (step : ∀ d k, c ≤ k → Cal P w K mg base CX0 x k ps (fun vs H Q E => ∃ d', d' < d ∧ spd d' vs H Q E) → FnOk P w K mg base CX0 (k + 1) f fd ps (spd d)) : ∀ d, FnOk P w K mg base CX0 (d + c + 1) f fd ps (spd d) := by
  intro d
  induction d using Nat.strongRecOn with
  | _ d ih =>
    refine step d (d + c) (Nat.le_add_left _ _) ⟨f, fd, gx, kp, ⟨fun vs H Q E h => ?_, fun A fs s H ar us vs Q E hr he hb hv h => ?_⟩, bt⟩
    · obtain ⟨d', lt, h⟩ := h
      exact (ih d' lt).len vs H Q E h
    · obtain ⟨d', lt, h⟩ := h
      exact (ih d' lt).run A fs s H ar us vs Q E (hr.mono (by omega)) he hb hv h
/-! the terms of a shape -/
def Shp.tms : Shp → List Tm
  | .every => [.every]
  | .nothing => [.nothing]
  | .empty z => [.emp z]
  | .comp z y i => [.cmp y z i]
  | .not s => s.tms ++ [.not]
  | .bin w s t => if w = "and" then s.tms ++ t.tms ++ [.and] else if w = "or" then s.tms ++ t.tms ++ [.or] else if w = "minus" then s.tms ++ (t.tms ++ [.not]) ++ [.and] else s.tms ++ t.tms ++ [.xor]
def Shp.good : Shp → Prop
  | .empty z => IsWord z
  | .comp z _ _ => IsWord z
  | .not s => s.good
  | .bin _ s t => s.good ∧ t.good
  | _ => True
/-- no fewer than its terms -/
def Shp.size : Shp → Nat
  | .not s => s.size + 1
  | .bin _ s t => s.size + t.size + 2
  | _ => 1
theorem Shp.len : ∀ s : Shp, s.tms.length ≤ s.size
  | .every => Nat.le_refl _
  | .nothing => Nat.le_refl _
  | .empty z => Nat.le_refl _
  | .comp z y i => Nat.le_refl _
  | .not s => by
    have := Shp.len s
    show (s.tms ++ [Tm.not]).length ≤ s.size + 1
    rw [List.length_append]
    show s.tms.length + 1 ≤ s.size + 1
    omega
  | .bin w s t => by
    have h1 := Shp.len s
    have h2 := Shp.len t
    show (if w = "and" then s.tms ++ t.tms ++ [Tm.and] else if w = "or" then s.tms ++ t.tms ++ [Tm.or] else if w = "minus" then s.tms ++ (t.tms ++ [Tm.not]) ++ [Tm.and] else s.tms ++ t.tms ++ [Tm.xor]).length ≤ s.size + t.size + 2
    split
    · simp only [List.length_append, List.length_singleton]; omega
    · split
      · simp only [List.length_append, List.length_singleton]; omega
      · split
        · simp only [List.length_append, List.length_singleton]; omega
        · simp only [List.length_append, List.length_singleton]; omega
theorem evs_app (env : Str → Option Int) : ∀ (as bs : List Tm) (st : List (Option Bool)), evs env (as ++ bs) st = (evs env as st).bind (evs env bs)
  | [], _, _ => rfl
  | m :: r, bs, st => by
    show (stp env m st).bind (evs env (r ++ bs)) = ((stp env m st).bind (evs env r)).bind (evs env bs)
    cases stp env m st with
    | none => rfl
    | some st' => exact evs_app env r bs st'
theorem evs_tms (env : Str → Option Int) : ∀ (s : Shp) (st : List (Option Bool)), evs env s.tms st = some (sem env s :: st)
  | .every, _ => rfl
  | .nothing, _ => rfl
  | .empty z, _ => rfl
  | .comp z y i, _ => rfl
  | .not s, st => by
    show evs env (s.tms ++ [.not]) st = _
    rw [evs_app, evs_tms env s]
    rfl
  | .bin w s t, st => by
    show evs env (if w = "and" then s.tms ++ t.tms ++ [.and] else if w = "or" then s.tms ++ t.tms ++ [.or] else if w = "minus" then s.tms ++ (t.tms ++ [.not]) ++ [.and] else s.tms ++ t.tms ++ [.xor]) st = some (bin3 w (sem env s) (sem env t) :: st)
    unfold bin3
    have two : ∀ m : Tm, evs env (s.tms ++ t.tms ++ [m]) st = evs env [m] (sem env t :: sem env s :: st) := fun m => by
      rw [evs_app, evs_app, evs_tms env s, Option.bind_some, evs_tms env t, Option.bind_some]
    split
    · rw [two]; rfl
    · split
      · rw [two]; rfl
      · split
        · rw [evs_app, evs_app, evs_tms env s, Option.bind_some, evs_app, evs_tms env t]
          rfl
        · rw [two]; rfl
/-! own operators -/
structure OpsF (P : Program) (w : World) (K : PySem.W.Frag) (mg : Str → Option Value) (base : Heap) (C : Addr) (op : Operator) (k : Nat) (sp : Sp) : Prop where
  ex : ∃ f fd, Ob.BinC K C op f ∧ FnOk P w K mg base CX0 k f fd ["self", "other"] sp ∧ Binds K fd ["self", "other"] []
structure InvF (P : Program) (w : World) (K : PySem.W.Frag) (mg : Str → Option Value) (base : Heap) (C : Addr) (k : Nat) (sp : Sp) : Prop where
  ex : ∃ f fd, PySem.W.findIn K (.ref C) "__invert__" = some (some (.ref f)) ∧ PySem.W.isFn K (.ref f) = true ∧ FnOk P w K mg base CX0 k f fd ["self"] sp ∧ Binds K fd ["self"] []
theorem inv_read {CF p : Addr} {a : List Tm} {H : Hp} {Q : VK} (h : Fi CF H p a) (hl : a.length ≤ 1000) (k : ∀ q G, H q = none → Same H G → Fi CF G q (a ++ [.not]) → Q (.ref q) G) : Ob.rInv CF (spUn CF .not) (.ref p) H Q := by
  obtain ⟨dx, t, xs, h1, h2, h3⟩ := id h
  exact ⟨p, dx, _, rfl, h1, p, a, rfl, h, hl, k⟩
theorem bin_rd {CF p r : Addr} {a b : List Tm} {m : Tm} {H : Hp} {Q : VK} (h : Fi CF H p a) (g : Fi CF H r b) (hl : a.length + b.length ≤ 1000) (k : ∀ q G, H q = none → Same H G → Fi CF G q (a ++ b ++ [m]) → Q (.ref q) G) : Ob.rBin CF (spBin CF m) (.ref p) (.ref r) H Q := by
  obtain ⟨dx, t, xs, h1, h2, h3⟩ := id h
  obtain ⟨dy, t', ys, g1, g2, g3⟩ := id g
  exact ⟨p, dx, r, dy, _, _, rfl, h1, rfl, g1, p, r, a, b, rfl, h, g, hl, fun q G nq s hq => ⟨⟨q, rfl⟩, k q G nq s hq⟩⟩
def spSub (CF : Addr) : Sp := fun vs H Q _ => ∃ (p r : Addr) (a b : List Tm), vs = [.ref p, .ref r] ∧ Fi CF H p a ∧ Fi CF H r b ∧ a.length + b.length ≤ 900 ∧ ∀ q G, H q = none → Same H G → Fi CF G q (a ++ (b ++ [.not]) ++ [.and]) → Q (.ref q) G
theorem scSub : FnScope ["self", "other"] ["self", "other"] (defScope sSub) := ⟨rfl, rfl, rfl, by decide +kernel, rfl, by decide +kernel, by decide +kernel⟩
theorem ok_sub {CF f : Addr} {fd : FuncData} (F : MethD K "__sub__" "Filter.__sub__" sSub f fd) (oA : OpsF P w K mg base CF .BitAnd 3 (spBin CF .and)) (oI : InvF P w K mg base CF 3 (spUn CF .not)) : FnOk P w K mg base CX0 4 f fd ["self", "other"] (spSub CF) := by
  obtain ⟨f1, fd1, W1, F1, b1⟩ := oA.ex
  obtain ⟨f2, fd2, a2, n2, F2, b2⟩ := oI.ex
  refine F.ok scSub (fun vs H Q E h => ?_) (fun cdv A outer s0 H vs Q E hr h => ?_)
  · obtain ⟨p, r, a, b, rfl, _⟩ := h
    rfl
  · obtain ⟨p, r, a, b, rfl, h1, h2, hl, k⟩ := h
    refine ⟨_, PSs.nox (pss_one (ps_ret (pe_op (Ob.op_binO W1 F1 b1 hr) (pv 0) (pe_un (Ob.op_invO a2 n2 F2 b2 hr) (pv 1))))), ?_⟩
    refine ⟨_, rfl, _, rfl, inv_read h2 (by omega) fun q G nq s hq => ?_⟩
    refine bin_rd (h1.same s) hq (by rw [List.length_append, List.length_singleton]; omega) fun q2 G2 nq2 s2 hq2 => ?_
    exact k q2 G2 (none_back s nq2) (s.trans s2) hq2
end
end Lw

set_option Elab.async false
set_option linter.all false
set_option maxRecDepth 100000
set_option maxHeartbeats 4000000
namespace Lw
open PySem PySem.Spec PyProof.Rows L2
abbrev sFilter : Stmt := top 49
section
variable {P : Program} {w : World} {K : PySem.W.Frag} {mg : Str → Option Value} {base : Heap}
/-! the filter of a shape -/
structure FilC (P : Program) (w : World) (K : PySem.W.Frag) (mg : Str → Option Value) (base : Heap) (CF : Addr) : Prop where
  comp : Cal P w K mg base CX0 "compare" 3 ["name", "sign", "number"] (spComp CF)
  emp : Cal P w K mg base CX0 "is_empty" 3 ["name"] (spEmp CF)
  rd : ClX.CRead K CF (.type "type")
  gF : mg "Filter" = some (.ref CF)
  every : ∃ q g fd, Sm.SMet K CF (.type "type") "every" q g ∧ FnOk P w K mg base CX0 3 g fd [] (spNul CF .every) ∧ Binds K fd [] []
  nothing : ∃ q g fd, Sm.SMet K CF (.type "type") "nothing" q g ∧ FnOk P w K mg base CX0 3 g fd [] (spNul CF .nothing) ∧ Binds K fd [] []
  inv : InvF P w K mg base CF 3 (spUn CF .not)
  and : OpsF P w K mg base CF .BitAnd 3 (spBin CF .and)
  or : OpsF P w K mg base CF .BitOr 3 (spBin CF .or)
  xor : OpsF P w K mg base CF .BitXor 3 (spBin CF .xor)
  sub : OpsF P w K mg base CF .Sub 4 (spSub CF)
def spFil (CF : Addr) (d : Nat) : Sp := fun vs H Q _ => ∃ (v : V) (s : Shp), vs = [v] ∧ ShV H s v ∧ s.ok ∧ s.good ∧ s.depth ≤ d ∧ s.size ≤ 400 ∧ ∀ q G, H q = none → Same H G → Fi CF G q s.tms → Q (.ref q) G
abbrev nFil : List Str := ["shape", "one", "other"]
theorem scFil : FnScope nFil ["shape"] (defScope sFilter) := ⟨rfl, rfl, rfl, by decide +kernel, rfl, by decide +kernel, by decide +kernel⟩
theorem sub_read {CF p r : Addr} {a b : List Tm} {H : Hp} {Q : VK} (h : Fi CF H p a) (g : Fi CF H r b) (hl : a.length + b.length ≤ 900) (k : ∀ q G, H q = none → Same H G → Fi CF G q (a ++ (b ++ [.not]) ++ [.and]) → Q (.ref q) G) : Ob.rBin CF (spSub CF) (.ref p) (.ref r) H Q := by
  obtain ⟨dx, t, xs, h1, h2, h3⟩ := id h
  obtain ⟨dy, t', ys, g1, g2, g3⟩ := id g
  exact ⟨p, dx, r, dy, _, _, rfl, h1, rfl, g1, p, r, a, b, rfl, h, g, hl, fun q G nq s hq => ⟨⟨q, rfl⟩, k q G nq s hq⟩⟩
theorem filter_step {CF f : Addr} {fd : FuncData} (F : FnP K "_law_filter" sFilter f fd) (c : FilC P w K mg base CF) (d k : Nat) (hk : 4 ≤ k) (cF : Cal P w K mg base CX0 "_law_filter" k ["shape"] (fun vs H Q E => ∃ d', d' < d ∧ spFil CF d' vs H Q E)) : FnOk P w K mg base CX0 (k + 1) f fd ["shape"] (spFil CF d) := by
  obtain ⟨qe, ge, fde, me, FE, bE⟩ := c.every
  obtain ⟨qn, gn, fdn, mn, FN, bN⟩ := c.nothing
  obtain ⟨fi, fdi, ai, ni, FI, bI⟩ := c.inv.ex
  obtain ⟨fa, fda, WA, FA, bA⟩ := c.and.ex
  obtain ⟨fo, fdo, WO, FO, bO⟩ := c.or.ex
  obtain ⟨fx, fdx, WX, FX, bX⟩ := c.xor.ex
  obtain ⟨fs, fds, WS, FS, bS⟩ := c.sub.ex
  refine F.ok scFil (fun vs H Q E h => ?_) (fun cdv A outer s0 H vs Q E hr h => ?_)
  · obtain ⟨v, s, rfl, _⟩ := h
    rfl
  · obtain ⟨v, s, rfl, hs, ok, gd, dp, sz, kk⟩ := h
    have nd := scFil.nd
    have h3 : Room 3 _ := hr.mono (by omega)
    have h4 : Room 4 _ := hr.mono hk
    refine ⟨_, PSs.nox (pss_cons (ps_if (pt_cmpR op_eq (pe_ix ix_tup (pv 0) pe_int (fun _ _ => rfl)) pe_str (nomark _)) (pss_one (ps_ret (Sm.pe_smeth0 (pe_glob (v := .ref CF) rfl c.gF rfl) c.rd me FE h3 bE pass0))) pss_nil)
      (pss_cons (ps_if (pt_cmpR op_eq (pe_ix ix_tup (pv 0) pe_int (fun _ _ => rfl)) pe_str (nomark _)) (pss_one (ps_ret (Sm.pe_smeth0 (pe_glob (v := .ref CF) rfl c.gF rfl) c.rd mn FN h3 bN pass0))) pss_nil)
      (pss_cons (ps_if (pt_cmpR op_eq (pe_ix ix_tup (pv 0) pe_int (fun _ _ => rfl)) pe_str (nomark _)) (pss_one (ps_ret (pe_cal c.emp h3 (pa_cons (pe_ix ix_tup (pv 0) pe_int (fun _ _ => rfl)) pa_nil)))) pss_nil)
      (pss_cons (ps_if (pt_cmpR op_eq (pe_ix ix_tup (pv 0) pe_int (fun _ _ => rfl)) pe_str (nomark _)) (pss_one (ps_ret (pe_cal c.comp h3 (pa_cons (pe_ix ix_tup (pv 0) pe_int (fun _ _ => rfl)) (pa_cons (pe_ix ix_tup (pv 0) pe_int (fun _ _ => rfl)) (pa_cons (pe_ix ix_tup (pv 0) pe_int (fun _ _ => rfl)) pa_nil)))))) pss_nil)
      (pss_cons (ps_set (i := 1) nd rfl (Or.inl rfl) (pe_cal cF hr (pa_cons (pe_ix ix_tup (pv 0) pe_int (fun _ _ => rfl)) pa_nil)))
      (pss_cons (ps_if (pt_cmpR op_eq (pe_ix ix_tup (pv 0) pe_int (fun _ _ => rfl)) pe_str (nomark _)) (pss_one (ps_ret (pe_un (Ob.op_invO ai ni FI bI h3) (pv 1)))) pss_nil)
      (pss_cons (ps_set (i := 2) nd rfl (Or.inl rfl) (pe_cal cF hr (pa_cons (pe_ix ix_tup (pv 0) pe_int (fun _ _ => rfl)) pa_nil)))
      (pss_cons (ps_if (pt_cmpR op_eq (pe_ix ix_tup (pv 0) pe_int (fun _ _ => rfl)) pe_str (nomark _)) (pss_one (ps_ret (pe_op (Ob.op_binO WA FA bA h3) (pv 1) (pv 2)))) pss_nil)
      (pss_cons (ps_if (pt_cmpR op_eq (pe_ix ix_tup (pv 0) pe_int (fun _ _ => rfl)) pe_str (nomark _)) (pss_one (ps_ret (pe_op (Ob.op_binO WO FO bO h3) (pv 1) (pv 2)))) pss_nil)
      (pss_one (ps_ret (pe_ifExp (pt_cmpR op_eq (pe_ix ix_tup (pv 0) pe_int (fun _ _ => rfl)) pe_str (nomark _)) (pe_op (Ob.op_binO WS FS bS h4) (pv 1) (pv 2)) (pe_op (Ob.op_binO WX FX bX h3) (pv 1) (pv 2)))))))))))))), ?_⟩
    cases s with
    | every =>
      obtain ⟨p, rfl, hp⟩ := hs
      refine ⟨_, rfl, p, _, _, .str "every", rfl, rfl, SqT.of hp, rfl, rfl, _, rfl, ite_bt (by decide +kernel) ?_⟩
      exact ⟨rfl, rfl, kk⟩
    | nothing =>
      obtain ⟨p, rfl, hp⟩ := hs
      refine ⟨_, rfl, p, _, _, .str "nothing", rfl, rfl, SqT.of hp, rfl, rfl, _, rfl, ite_bf (by decide +kernel) ?_⟩
      refine ⟨_, rfl, p, _, _, .str "nothing", rfl, rfl, SqT.of hp, rfl, rfl, _, rfl, ite_bt (by decide +kernel) ?_⟩
      exact ⟨rfl, rfl, kk⟩
    | empty z =>
      obtain ⟨p, rfl, hp⟩ := hs
      refine ⟨_, rfl, p, _, _, .str "empty", rfl, rfl, SqT.of hp, rfl, rfl, _, rfl, ite_bf (by decide +kernel) ?_⟩
      refine ⟨_, rfl, p, _, _, .str "empty", rfl, rfl, SqT.of hp, rfl, rfl, _, rfl, ite_bf (by decide +kernel) ?_⟩
      refine ⟨_, rfl, p, _, _, .str "empty", rfl, rfl, SqT.of hp, rfl, rfl, _, rfl, ite_bt (by decide +kernel) ?_⟩
      exact ⟨_, rfl, p, _, _, .str z, rfl, rfl, SqT.of hp, rfl, z, rfl, gd, kk⟩
    | comp z y i =>
      obtain ⟨p, rfl, hp⟩ := hs
      refine ⟨_, rfl, p, _, _, .str "compare", rfl, rfl, SqT.of hp, rfl, rfl, _, rfl, ite_bf (by decide +kernel) ?_⟩
      refine ⟨_, rfl, p, _, _, .str "compare", rfl, rfl, SqT.of hp, rfl, rfl, _, rfl, ite_bf (by decide +kernel) ?_⟩
      refine ⟨_, rfl, p, _, _, .str "compare", rfl, rfl, SqT.of hp, rfl, rfl, _, rfl, ite_bf (by decide +kernel) ?_⟩
      refine ⟨_, rfl, p, _, _, .str "compare", rfl, rfl, SqT.of hp, rfl, rfl, _, rfl, ite_bt (by decide +kernel) ?_⟩
      exact ⟨_, rfl, p, _, _, .str z, rfl, rfl, SqT.of hp, rfl, _, rfl, p, _, _, .str y, rfl, rfl, SqT.of hp, rfl, _, rfl, p, _, _, .int i, rfl, rfl, SqT.of hp, rfl, z, y, i, rfl, gd, ok, kk⟩
    | not s =>
      obtain ⟨p, v1, rfl, hp, hs1⟩ := hs
      have dp1 : s.depth + 1 ≤ d := dp
      have sz1 : s.size + 1 ≤ 400 := sz
      refine ⟨_, rfl, p, _, _, .str "not", rfl, rfl, SqT.of hp, rfl, rfl, _, rfl, ite_bf (by decide +kernel) ?_⟩
      refine ⟨_, rfl, p, _, _, .str "not", rfl, rfl, SqT.of hp, rfl, rfl, _, rfl, ite_bf (by decide +kernel) ?_⟩
      refine ⟨_, rfl, p, _, _, .str "not", rfl, rfl, SqT.of hp, rfl, rfl, _, rfl, ite_bf (by decide +kernel) ?_⟩
      refine ⟨_, rfl, p, _, _, .str "not", rfl, rfl, SqT.of hp, rfl, rfl, _, rfl, ite_bf (by decide +kernel) ?_⟩
      dsimp only [tNext]
      refine sq_set (fun x G => ∃ q, x = .ref q ∧ Same H G ∧ Fi CF G q s.tms) (fun Q q => ⟨_, rfl, p, _, _, v1, rfl, rfl, SqT.of hp, rfl, s.depth, by omega, v1, s, rfl, hs1, ok, gd, Nat.le_refl _, by omega, fun q' G nq sG hq => q _ _ ⟨q', rfl, sG, hq⟩⟩) ?_
      rintro _ G ⟨q1, rfl, sG, f1⟩
      refine ⟨_, rfl, p, _, _, .str "not", rfl, rfl, SqT.of (sG _ _ hp), rfl, rfl, _, rfl, ite_bt (by decide +kernel) ?_⟩
      refine ⟨_, rfl, inv_read f1 (Nat.le_trans (Shp.len s) (by omega)) fun q' G' nq sG' hq => kk q' G' (none_back sG nq) (sG.trans sG') hq⟩
    | bin wd s t =>
      obtain ⟨p, v1, v2, rfl, hp, hs1, hs2⟩ := hs
      obtain ⟨okw, ok1, ok2⟩ := ok
      obtain ⟨gd1, gd2⟩ := gd
      have dp1 : max s.depth t.depth + 1 ≤ d := dp
      have sz1 : s.size + t.size + 2 ≤ 400 := sz
      have ne : ∀ z : Str, z ∉ words → decide (V.str wd = V.str z) = false := fun z hz => decide_eq_false fun e => by
        cases e
        exact hz okw
      refine ⟨_, rfl, p, _, _, .str wd, rfl, rfl, SqT.of hp, rfl, rfl, _, rfl, ite_bf (ne _ (by decide)) ?_⟩
      refine ⟨_, rfl, p, _, _, .str wd, rfl, rfl, SqT.of hp, rfl, rfl, _, rfl, ite_bf (ne _ (by decide)) ?_⟩
      refine ⟨_, rfl, p, _, _, .str wd, rfl, rfl, SqT.of hp, rfl, rfl, _, rfl, ite_bf (ne _ (by decide)) ?_⟩
      refine ⟨_, rfl, p, _, _, .str wd, rfl, rfl, SqT.of hp, rfl, rfl, _, rfl, ite_bf (ne _ (by decide)) ?_⟩
      dsimp only [tNext]
      refine sq_set (fun x G => ∃ q, x = .ref q ∧ Same H G ∧ Fi CF G q s.tms) (fun Q q => ⟨_, rfl, p, _, _, v1, rfl, rfl, SqT.of hp, rfl, s.depth, by omega, v1, s, rfl, hs1, ok1, gd1, Nat.le_refl _, by omega, fun q' G nq sG hq => q _ _ ⟨q', rfl, sG, hq⟩⟩) ?_
      rintro _ G ⟨q1, rfl, sG, f1⟩
      refine ⟨_, rfl, p, _, _, .str wd, rfl, rfl, SqT.of (sG _ _ hp), rfl, rfl, _, rfl, ite_bf (ne _ (by decide)) ?_⟩
      dsimp only [tNext]
      refine sq_set (fun x G2 => ∃ q, x = .ref q ∧ Same G G2 ∧ Fi CF G2 q t.tms) (fun Q q => ⟨_, rfl, p, _, _, v2, rfl, rfl, SqT.of (sG _ _ hp), rfl, t.depth, by omega, v2, t, rfl, hs2.same sG, ok2, gd2, Nat.le_refl _, by omega, fun q' G nq sG hq => q _ _ ⟨q', rfl, sG, hq⟩⟩) ?_
      rintro _ G2 ⟨q2, rfl, sG2, f2⟩
      have f1' := f1.same sG2
      have hp2 := sG2 _ _ (sG _ _ hp)
      have l1 := Shp.len s
      have l2 := Shp.len t
      have ll : s.tms.length + t.tms.length ≤ 900 := by omega
      have fin : ∀ q' G', G2 q' = none → Same G2 G' → Fi CF G' q' (Shp.bin wd s t).tms → Q (.ref q') G' := fun q' G' nq s' hq => kk q' G' (none_back (sG.trans sG2) nq) ((sG.trans sG2).trans s') hq
      have yes : decide (V.str wd = V.str wd) = true := decide_eq_true rfl
      have wds : wd = "and" ∨ wd = "or" ∨ wd = "minus" ∨ wd = "differ" := by simpa [words] using okw
      rcases wds with rfl | rfl | rfl | rfl
      · refine ⟨_, rfl, p, _, _, .str "and", rfl, rfl, SqT.of hp2, rfl, rfl, _, rfl, ite_bt (by decide +kernel) ?_⟩
        exact ⟨_, rfl, _, rfl, bin_rd f1' f2 (by omega) fin⟩
      · refine ⟨_, rfl, p, _, _, .str "or", rfl, rfl, SqT.of hp2, rfl, rfl, _, rfl, ite_bf (by decide +kernel) ?_⟩
        refine ⟨_, rfl, p, _, _, .str "or", rfl, rfl, SqT.of hp2, rfl, rfl, _, rfl, ite_bt (by decide +kernel) ?_⟩
        exact ⟨_, rfl, _, rfl, bin_rd f1' f2 (by omega) fin⟩
      · refine ⟨_, rfl, p, _, _, .str "minus", rfl, rfl, SqT.of hp2, rfl, rfl, _, rfl, ite_bf (by decide +kernel) ?_⟩
        refine ⟨_, rfl, p, _, _, .str "minus", rfl, rfl, SqT.of hp2, rfl, rfl, _, rfl, ite_bf (by decide +kernel) ?_⟩
        refine ⟨_, rfl, p, _, _, .str "minus", rfl, rfl, SqT.of hp2, rfl, rfl, _, rfl, ite_bt (by decide +kernel) ?_⟩
        exact ⟨_, rfl, _, rfl, sub_read f1' f2 ll fin⟩
      · refine ⟨_, rfl, p, _, _, .str "differ", rfl, rfl, SqT.of hp2, rfl, rfl, _, rfl, ite_bf (by decide +kernel) ?_⟩
        refine ⟨_, rfl, p, _, _, .str "differ", rfl, rfl, SqT.of hp2, rfl, rfl, _, rfl, ite_bf (by decide +kernel) ?_⟩
        refine ⟨_, rfl, p, _, _, .str "differ", rfl, rfl, SqT.of hp2, rfl, rfl, _, rfl, ite_bf (by decide +kernel) ?_⟩
        exact ⟨_, rfl, _, rfl, bin_rd f1' f2 (by omega) fin⟩
end
end Lw

set_option Elab.async false
set_option linter.all false
set_option maxRecDepth 100000
set_option maxHeartbeats 4000000
namespace Lw
open PySem PySem.Spec PyProof.Rows L2
abbrev sLeaf : Stmt := top 47
section
variable {P : Program} {w : World} {K : PySem.W.Frag} {mg : Str → Option Value} {base : Heap}
/-! shapes drawn -/
theorem ShV.imp {H G : Hp} (k : ∀ p xs, H p = some (.tup xs) → G p = some (.tup xs)) : ∀ {s : Shp} {v : V}, ShV H s v → ShV G s v
  | .every, _, ⟨p, e, h⟩ => ⟨p, e, k _ _ h⟩
  | .nothing, _, ⟨p, e, h⟩ => ⟨p, e, k _ _ h⟩
  | .empty _, _, ⟨p, e, h⟩ => ⟨p, e, k _ _ h⟩
  | .comp _ _ _, _, ⟨p, e, h⟩ => ⟨p, e, k _ _ h⟩
  | .not s, _, ⟨p, u, e, h, r⟩ => ⟨p, u, e, k _ _ h, ShV.imp k (s := s) r⟩
  | .bin _ s t, _, ⟨p, u1, u2, e, h, r1, r2⟩ => ⟨p, u1, u2, e, k _ _ h, ShV.imp k (s := s) r1, ShV.imp k (s := t) r2⟩
theorem tup_keep {a : Addr} {n : Nat} {H G : Hp} (S : Src H a n) (k : Keep a H G) (p : Addr) (xs : List V) (h : H p = some (.tup xs)) : G p = some (.tup xs) := by
  obtain ⟨d, s, t, ha, _⟩ := S
  refine k p _ (fun e => ?_) h
  subst e
  rw [ha] at h
  cases h
/-- what is drawn of: names and numbers -/
structure Pots (K : PySem.W.Frag) (H : Hp) (a nl pl : Addr) (zs : List Str) (ns : List Int) : Prop where
  na : nl ≠ a
  pa : pl ≠ a
  nz : SqL K H nl (zs.map V.str)
  nn : SqL K H pl (ns.map V.int)
  z0 : zs ≠ []
  n0 : ns ≠ []
  zw : ∀ z ∈ zs, IsWord z
  zl : zs.length ≤ 100
  nl_ : ns.length ≤ 100
theorem Pots.keep {K : PySem.W.Frag} {H G : Hp} {a nl pl : Addr} {zs : List Str} {ns : List Int} (h : Pots K H a nl pl zs ns) (k : Keep a H G) : Pots K G a nl pl zs ns := ⟨h.na, h.pa, k.seq h.na h.nz, k.seq h.pa h.nn, h.z0, h.n0, h.zw, h.zl, h.nl_⟩
def spLeaf (K : PySem.W.Frag) : Sp := fun vs H Q _ => ∃ (a nl pl : Addr) (n : Nat) (zs : List Str) (ns : List Int), vs = [.ref a, .ref nl, .ref pl] ∧ Src H a n ∧ n ≤ 700000000 ∧ Pots K H a nl pl zs ns ∧
  ∀ G v s, Keep a H G → Src G a (n + 4) → ShV G s v → s.ok → s.good → s.depth = 0 → s.size = 1 → Q v G
abbrev nLeaf : List Str := ["source", "names", "pool", "kind", "name"]
theorem scLeaf : FnScope nLeaf ["source", "names", "pool"] (defScope sLeaf) := ⟨rfl, rfl, rfl, by decide +kernel, rfl, by decide +kernel, by decide +kernel⟩
theorem ok_leaf {f : Addr} {fd : FuncData} (F : FnP K "_law_leaf" sLeaf f fd) (cD : Cal P w K mg base CX0 "_law_draw" 1 ["source", "many"] spDraw) (cO : Cal P w K mg base CX0 "_law_of" 2 ["source", "some"] (spOf K)) : FnOk P w K mg base CX0 3 f fd ["source", "names", "pool"] (spLeaf K) := by
  refine F.ok scLeaf (fun vs H Q E h => ?_) (fun cdv A outer s0 H vs Q E hr h => ?_)
  · obtain ⟨a, nl, pl, n, zs, ns, rfl, _⟩ := h
    rfl
  · obtain ⟨a, nl, pl, n, zs, ns, rfl, S, hn, PO, k⟩ := h
    have nd := scLeaf.nd
    have h1 : Room 1 _ := hr.mono (by decide)
    refine ⟨_, PSs.nox (pss_cons (ps_par (i := 3) (j := 4) (by rfl) nd rfl rfl (by decide) rfl rfl (pa_cons (pe_cal cD h1 (pa_cons (pv 0) (pa_cons pe_int pa_nil))) (pa_cons (pe_cal cO hr (pa_cons (pv 0) (pa_cons (pv 1) pa_nil))) pa_nil)) (by rfl))
      (pss_cons (ps_if (pt_cmpR op_eq (pv 3) pe_int (nomark _)) (pss_one (ps_ret (pe_cal cO hr (pa_cons (pv 0) (pa_cons (pe_lst (pa_cons (pe_tup (pa_cons pe_str pa_nil)) (pa_cons (pe_tup (pa_cons pe_str pa_nil)) pa_nil))) pa_nil))))) pss_nil)
      (pss_cons (ps_if (pt_cmpR op_eq (pv 3) pe_int (nomark _)) (pss_one (ps_ret (pe_tup (pa_cons pe_str (pa_cons (pv 4) pa_nil))))) pss_nil)
      (pss_one (ps_ret (pe_tup (pa_cons pe_str (pa_cons (pv 4) (pa_cons (pe_cal cO hr (pa_cons (pv 0) (pa_cons (pe_lst (pa_cons pe_str (pa_cons pe_str (pa_cons pe_str (pa_cons pe_str (pa_cons pe_str (pa_cons pe_str pa_nil))))))) pa_nil))) (pa_cons (pe_cal cO hr (pa_cons (pv 0) (pa_cons (pv 2) pa_nil))) pa_nil)))))))))), ?_⟩
    refine sq_par (fun x y G => ∃ (kind : Int) (z : Str), x = .int kind ∧ y = .str z ∧ IsWord z ∧ Keep a H G ∧ Src G a (n + 2)) (fun Q q => ?_) ?_
    · refine ⟨_, rfl, a, n, _, rfl, S, by omega, by decide, by decide, fun G1 kind k1 s1 _ _ => ⟨_, rfl, _, rfl, a, nl, _, _, rfl, s1, by omega, PO.na, k1.seq PO.na PO.nz, (fun e => PO.z0 (List.map_eq_nil_iff.mp e)), (by rw [List.length_map]; exact Nat.le_trans PO.zl (by decide)), fun G2 x k2 s2 hx => ?_⟩⟩
      obtain ⟨z, hz, rfl⟩ := List.mem_map.mp hx
      exact q _ _ _ ⟨kind, z, rfl, rfl, PO.zw z hz, k1.trans k2, s2⟩
    rintro _ _ G ⟨kind, z, rfl, rfl, wz, kG, SG⟩
    refine sq_if1 (fun b G1 => G = G1) (fun Q q => ⟨_, rfl, rfl, _, rfl, q _ _ rfl⟩) ?_ ?_
    · rintro _ rfl
      refine ⟨_, rfl, (by show 1 ≤ sizeLine; decide), fun e1 n1 => ⟨(by show 1 ≤ sizeLine; decide), fun e2 n2 => ⟨(by show 2 ≤ sizeLine; decide), fun l nl' => ?_⟩⟩⟩
      have s1 := Lw.Same.new (o := .tup [.str "every"]) (Same.refl G) n1
      have s2 := Lw.Same.new (o := .tup [.str "nothing"]) (Same.refl _) n2
      have s3 := Lw.Same.new (o := .lst [.ref e1, .ref e2]) (Same.refl _) nl'
      have all := (s1.trans s2).trans s3
      have g1 := s3 _ _ (s2 _ _ (upd_same (H := G) (a := e1) (o := .tup [.str "every"])))
      have g2 := s3 _ _ (upd_same (H := upd G e1 (.tup [.str "every"])) (a := e2) (o := .tup [.str "nothing"]))
      have S3 := SG.same all
      refine ⟨a, l, _, _, rfl, S3, by omega, ?_, SqL.of upd_same, (fun e => by cases e), (by show 2 ≤ 100000; decide), fun G4 x k4 s4 hx => ?_⟩
      · exact ((SG.same s1).same s2).ne nl'
      · have tk := tup_keep S3 k4
        have kk := (kG.trans (Keep.of_same all)).trans k4
        simp only [List.mem_cons, List.not_mem_nil, or_false] at hx
        rcases hx with rfl | rfl
        · exact k G4 _ .every kk (s4.mono (by omega)) ⟨e1, rfl, tk _ _ g1⟩ trivial trivial rfl rfl
        · exact k G4 _ .nothing kk (s4.mono (by omega)) ⟨e2, rfl, tk _ _ g2⟩ trivial trivial rfl rfl
    rintro _ rfl
    refine sq_if1 (fun b G1 => G = G1) (fun Q q => ⟨_, rfl, rfl, _, rfl, q _ _ rfl⟩) ?_ ?_
    · rintro _ rfl
      refine ⟨_, rfl, (by show 2 ≤ sizeLine; decide), fun e1 n1 => ?_⟩
      have s1 := Lw.Same.new (o := .tup [.str "empty", .str z]) (Same.refl G) n1
      exact k _ _ (.empty z) (kG.trans (Keep.of_same s1)) ((SG.same s1).mono (by omega)) ⟨e1, rfl, upd_same⟩ trivial wz rfl rfl
    rintro _ rfl
    refine ⟨_, rfl, _, rfl, (by show 6 ≤ sizeLine; decide), fun l nl' => ⟨a, l, _, _, rfl, SG.new nl', by omega, SG.ne nl', SqL.of upd_same, (fun e => by cases e), (by show 6 ≤ 100000; decide), fun G4 x k4 s4 hx => ?_⟩⟩
    have hx' : ∃ y ∈ signs, x = .str y := by
      simp only [List.mem_cons, List.not_mem_nil, or_false] at hx
      rcases hx with rfl | rfl | rfl | rfl | rfl | rfl
      · exact ⟨"=", by decide, rfl⟩
      · exact ⟨"!=", by decide, rfl⟩
      · exact ⟨"<", by decide, rfl⟩
      · exact ⟨"<=", by decide, rfl⟩
      · exact ⟨">", by decide, rfl⟩
      · exact ⟨">=", by decide, rfl⟩
    obtain ⟨y, hy, rfl⟩ := hx'
    have k04 := kG.trans (((Keep.refl G).new nl').trans k4)
    refine ⟨_, rfl, _, rfl, a, pl, _, _, rfl, s4, by omega, PO.pa, k04.seq PO.pa PO.nn, (fun e => PO.n0 (List.map_eq_nil_iff.mp e)), (by rw [List.length_map]; exact Nat.le_trans PO.nl_ (by decide)), fun G5 x k5 s5 hx => ?_⟩
    obtain ⟨i, hi, rfl⟩ := List.mem_map.mp hx
    refine ⟨(by show 4 ≤ sizeLine; decide), fun e1 n1 => ?_⟩
    have s1 := Lw.Same.new (o := .tup [.str "compare", .str z, .str y, .int i]) (Same.refl G5) n1
    exact k _ _ (.comp z y i) ((k04.trans k5).trans (Keep.of_same s1)) ((s5.same s1).mono (by omega)) ⟨e1, rfl, upd_same⟩ hy wz rfl rfl
end
end Lw

set_option Elab.async false
set_option linter.all false
set_option maxRecDepth 100000
set_option maxHeartbeats 4000000
namespace Lw
open PySem PySem.Spec PyProof.Rows L2
abbrev sShape : Stmt := top 48
section
variable {P : Program} {w : World} {K : PySem.W.Frag} {mg : Str → Option Value} {base : Heap}
theorem sq_both {c : TT} {t1 u : TS} {D : Ends} {σ : L2.St} {H : Hp} (P : Bool → Hp → Prop) (P2 : L2.St → Hp → Prop) (h : ∀ Q : Bool → Hp → Prop, (∀ b H', P b H' → Q b H') → c σ H Q)
    (kt : ∀ H', P true H' → ∀ D' : Ends, (∀ τ G, P2 τ G → D'.nx τ G) → t1 D' σ H') (kf : ∀ H', P false H' → P2 σ H') (k : ∀ τ G, P2 τ G → u D τ G) : tSeq (tIfS c t1 tNext) u D σ H :=
  sq_if P h (fun H' p => kt H' p _ k) (fun H' p => k _ H' (kf H' p))
def spShape (K : PySem.W.Frag) : Sp := fun vs H Q _ => ∃ (a nl pl : Addr) (n : Nat) (m : Int) (zs : List Str) (ns : List Int), vs = [.ref a, .ref nl, .ref pl, .int m] ∧ Src H a n ∧ n ≤ 600000000 ∧ 1 ≤ m ∧ m ≤ 6 ∧ Pots K H a nl pl zs ns ∧
  ∀ G v s, Keep a H G → Src G a (n + 50) → ShV G s v → s.ok → s.good → s.depth ≤ 11 → s.size ≤ 22 → Q v G
abbrev nShape : List Str := ["source", "names", "pool", "most", "found", "turn", "leaf", "word"]
theorem scShape : FnScope nShape ["source", "names", "pool", "most"] (defScope sShape) := ⟨rfl, rfl, rfl, by decide +kernel, rfl, by decide +kernel, by decide +kernel⟩
theorem ok_shape {f : Addr} {fd : FuncData} (F : FnP K "_law_shape" sShape f fd) (T : TxtD mg) (cD : Cal P w K mg base CX0 "_law_draw" 1 ["source", "many"] spDraw) (cO : Cal P w K mg base CX0 "_law_of" 2 ["source", "some"] (spOf K)) (cL : Cal P w K mg base CX0 "_law_leaf" 3 ["source", "names", "pool"] (spLeaf K)) : FnOk P w K mg base CX0 4 f fd ["source", "names", "pool", "most"] (spShape K) := by
  refine F.ok scShape (fun vs H Q E h => ?_) (fun cdv A outer s0 H vs Q E hr h => ?_)
  · obtain ⟨a, nl, pl, n, m, zs, ns, rfl, _⟩ := h
    rfl
  · obtain ⟨a, nl, pl, n, m, zs, ns, rfl, S, hn, m1, m6, PO, k⟩ := h
    have nd := scShape.nd
    have h1 : Room 1 _ := hr.mono (by decide)
    have h2 : Room 2 _ := hr.mono (by decide)
    refine ⟨_, PSs.nox (pss_cons (ps_set (i := 4) nd rfl (Or.inl rfl) (pe_cal cL hr (pa_cons (pv 0) (pa_cons (pv 1) (pa_cons (pv 2) pa_nil)))))
      (pss_cons (ps_for PassesOwn.never rfl (pi_range1 rfl T.range (pa_cons (pe_cal cD h1 (pa_cons (pv 0) (pa_cons (pv 3) pa_nil))) pa_nil)) (pg_name (i := 5) nd rfl (Or.inl rfl))
        (pss_cons (ps_if (pt_cmpR op_eq (pe_cal cD h1 (pa_cons (pv 0) (pa_cons pe_int pa_nil))) pe_int (nomark _)) (pss_one (ps_set (i := 4) nd rfl (Or.inl rfl) (pe_tup (pa_cons pe_str (pa_cons (pv 4) pa_nil))))) pss_nil)
        (pss_cons (ps_par (i := 6) (j := 7) (by rfl) nd rfl rfl (by decide) rfl rfl (pa_cons (pe_cal cL hr (pa_cons (pv 0) (pa_cons (pv 1) (pa_cons (pv 2) pa_nil)))) (pa_cons (pe_cal cO h2 (pa_cons (pv 0) (pa_cons (pe_lst (pa_cons pe_str (pa_cons pe_str (pa_cons pe_str (pa_cons pe_str pa_nil))))) pa_nil))) pa_nil)) (by rfl))
        (pss_one (ps_set (i := 4) nd rfl (Or.inl rfl) (pe_ifExp (pt_cmpR op_eq (pe_cal cD h1 (pa_cons (pv 0) (pa_cons pe_int pa_nil))) pe_int (nomark _)) (pe_tup (pa_cons (pv 7) (pa_cons (pv 6) (pa_cons (pv 4) pa_nil)))) (pe_tup (pa_cons (pv 7) (pa_cons (pv 4) (pa_cons (pv 6) pa_nil))))))))))
      (pss_one (ps_ret (pe_ifExp (pt_cmpR op_eq (pe_cal cD h1 (pa_cons (pv 0) (pa_cons pe_int pa_nil))) pe_int (nomark _)) (pe_tup (pa_cons pe_str (pa_cons (pv 4) pa_nil))) (pv 4)))))), ?_⟩
    refine sq_set (fun v G => ∃ s : Shp, Keep a H G ∧ Src G a (n + 4) ∧ ShV G s v ∧ s.ok ∧ s.good ∧ s.depth = 0 ∧ s.size = 1) (fun Q q => ⟨_, rfl, _, rfl, _, rfl, a, nl, pl, n, zs, ns, rfl, S, by omega, PO, fun G v s kG sG hs ok gd dp sz => q _ _ ⟨s, kG, sG, hs, ok, gd, dp, sz⟩⟩) ?_
    rintro v0 G0 ⟨s0', k0, S0, hs0, ok0, gd0, dp0, sz0⟩
    refine ⟨_, rfl, _, rfl, a, _, m, rfl, S0, by omega, by omega, by omega, fun G1 c k1 S1 c0 c1 => ⟨c, rfl, by omega, by omega, ?_⟩⟩
    have tk1 := tup_keep S0 k1
    refine for_range (lo := 0) (fun i σ G => ∃ (v : V) (v5 v6 v7 : Option V) (s : Shp), σ = [some (.ref a), some (.ref nl), some (.ref pl), some (.int m), some v, v5, v6, v7] ∧ Keep a H G ∧ Src G a (n + 5 + 7 * i) ∧ ShV G s v ∧ s.ok ∧ s.good ∧ s.depth ≤ 2 * i ∧ s.size ≤ 1 + 4 * i)
      ⟨v0, _, _, _, s0', rfl, k0.trans k1, S1, hs0.imp tk1, ok0, gd0, by omega, by omega⟩ ?_ ?_
    · rintro i σ G hi ⟨v, v5, v6, v7, s, rfl, kG, sG, hs, ok, gd, dp, sz⟩
      have i5 : i < 5 := by omega
      refine g_name ?_
      refine sq_both (fun b G1 => Keep a G G1 ∧ Src G1 a (n + 5 + 7 * i + 1)) (fun τ G1 => ∃ (v : V) (v5 v6 v7 : Option V) (s : Shp), τ = [some (.ref a), some (.ref nl), some (.ref pl), some (.int m), some v, v5, v6, v7] ∧ Keep a H G1 ∧ Src G1 a (n + 5 + 7 * i + 1) ∧ ShV G1 s v ∧ s.ok ∧ s.good ∧ s.depth ≤ 2 * i + 1 ∧ s.size ≤ 2 + 4 * i) (fun Q q => ?_) ?_ ?_ ?_
      · exact ⟨_, rfl, a, _, _, rfl, sG, by omega, by decide, by decide, fun G1 c k1 s1 _ _ => ⟨rfl, _, rfl, q _ _ ⟨k1, s1⟩⟩⟩
      · rintro G1 ⟨k1, s1⟩ D' kD
        refine s1_set (fun x G2 => ∃ e, x = .ref e ∧ G1 e = none ∧ G2 = upd G1 e (.tup [.str "not", v])) (fun Q q => ⟨_, rfl, (by show 2 ≤ sizeLine; decide), fun e ne => q _ _ ⟨e, rfl, ne, rfl⟩⟩) ?_
        rintro _ _ ⟨e, rfl, ne, rfl⟩
        have se := Lw.Same.new (o := .tup [.str "not", v]) (Same.refl G1) ne
        exact kD _ _ ⟨_, _, _, _, .not s, rfl, (kG.trans k1).trans (Keep.of_same se), s1.same se, ⟨e, v, rfl, upd_same, (hs.imp (tup_keep sG k1)).same se⟩, ok, gd, Nat.succ_le_succ dp, Nat.le_trans (Nat.succ_le_succ sz) (by omega)⟩
      · rintro G1 ⟨k1, s1⟩
        exact ⟨v, _, _, _, s, rfl, kG.trans k1, s1, hs.imp (tup_keep sG k1), ok, gd, by omega, by omega⟩
      rintro τ G1 ⟨v, v5, v6, v7, s, rfl, kG1, sG1, hs, ok, gd, dp, sz⟩
      refine sq_par (fun x y G2 => ∃ (t : Shp) (wd : Str), y = .str wd ∧ wd ∈ words ∧ Keep a G1 G2 ∧ Src G2 a (n + 5 + 7 * i + 6) ∧ ShV G2 t x ∧ t.ok ∧ t.good ∧ t.depth = 0 ∧ t.size = 1) (fun Q q => ?_) ?_
      · refine ⟨_, rfl, _, rfl, _, rfl, a, nl, pl, _, zs, ns, rfl, sG1, by omega, PO.keep kG1, fun G2 x t k2 s2 ht okt gdt dpt szt => ⟨_, rfl, (by show 4 ≤ sizeLine; decide), fun l nl' => ⟨a, l, _, _, rfl, s2.new nl', by omega, s2.ne nl', SqL.of upd_same, (fun e => by cases e), (by show 4 ≤ 100000; decide), fun G3 y k3 s3 hy => ?_⟩⟩⟩
        have kk := ((Keep.refl G2).new nl').trans k3
        have hy' : ∃ wd ∈ words, y = .str wd := by
          simp only [List.mem_cons, List.not_mem_nil, or_false] at hy
          rcases hy with rfl | rfl | rfl | rfl
          · exact ⟨"and", by decide, rfl⟩
          · exact ⟨"or", by decide, rfl⟩
          · exact ⟨"minus", by decide, rfl⟩
          · exact ⟨"differ", by decide, rfl⟩
        obtain ⟨wd, hw, rfl⟩ := hy'
        exact q _ _ _ ⟨t, wd, rfl, hw, k2.trans kk, s3.mono (by omega), ht.imp (tup_keep s2 kk), okt, gdt, dpt, szt⟩
      rintro x _ G2 ⟨t, wd, rfl, hw, k2, s2, ht, okt, gdt, dpt, szt⟩
      have hs2 := hs.imp (tup_keep sG1 k2)
      refine s1_set (fun x G4 => ∃ s' : Shp, Keep a H G4 ∧ Src G4 a (n + 5 + 7 * (i + 1)) ∧ ShV G4 s' x ∧ s'.ok ∧ s'.good ∧ s'.depth ≤ 2 * (i + 1) ∧ s'.size ≤ 1 + 4 * (i + 1)) (fun Q q => ?_) ?_
      · refine ⟨_, rfl, a, _, _, rfl, s2, by omega, by decide, by decide, fun G3 c k3 s3 _ _ => ⟨rfl, _, rfl, bool_ite (fun _ => ?_) (fun _ => ?_)⟩⟩
        · refine ⟨_, rfl, _, rfl, _, rfl, (by show 3 ≤ sizeLine; decide), fun e ne => ?_⟩
          have se := Lw.Same.new (o := .tup [.str wd, x, v]) (Same.refl G3) ne
          have tk := tup_keep s2 k3
          refine q _ _ ⟨.bin wd t s, ((kG1.trans k2).trans k3).trans (Keep.of_same se), (s3.same se).mono (by omega), ⟨e, x, v, rfl, upd_same, (ht.imp tk).same se, (hs2.imp tk).same se⟩, ⟨hw, okt, ok⟩, ⟨gdt, gd⟩, ?_, ?_⟩
          · show max t.depth s.depth + 1 ≤ _
            omega
          · show t.size + s.size + 2 ≤ _
            omega
        · refine ⟨_, rfl, _, rfl, _, rfl, (by show 3 ≤ sizeLine; decide), fun e ne => ?_⟩
          have se := Lw.Same.new (o := .tup [.str wd, v, x]) (Same.refl G3) ne
          have tk := tup_keep s2 k3
          refine q _ _ ⟨.bin wd s t, ((kG1.trans k2).trans k3).trans (Keep.of_same se), (s3.same se).mono (by omega), ⟨e, v, x, rfl, upd_same, (hs2.imp tk).same se, (ht.imp tk).same se⟩, ⟨hw, ok, okt⟩, ⟨gd, gdt⟩, ?_, ?_⟩
          · show max s.depth t.depth + 1 ≤ _
            omega
          · show s.size + t.size + 2 ≤ _
            omega
      rintro x2 G4 ⟨s', kG4, sG4, hs', ok', gd', dp', sz'⟩
      exact ⟨x2, _, _, _, s', rfl, kG4, sG4, hs', ok', gd', dp', sz'⟩
    · rintro σ G ⟨v, v5, v6, v7, s, rfl, kG, sG, hs, ok, gd, dp, sz⟩
      refine ⟨_, rfl, a, _, _, rfl, sG, by omega, by decide, by decide, fun G3 c' k3 s3 _ _ => ⟨rfl, _, rfl, bool_ite (fun _ => ?_) (fun _ => ?_)⟩⟩
      · refine ⟨_, rfl, (by show 2 ≤ sizeLine; decide), fun e ne => ?_⟩
        have se := Lw.Same.new (o := .tup [.str "not", v]) (Same.refl G3) ne
        refine k _ _ (.not s) ((kG.trans k3).trans (Keep.of_same se)) ((s3.same se).mono (by omega)) ⟨e, v, rfl, upd_same, (hs.imp (tup_keep sG k3)).same se⟩ ok gd ?_ ?_
        · show s.depth + 1 ≤ 11
          omega
        · show s.size + 1 ≤ 22
          omega
      · exact ⟨_, rfl, k _ _ s (kG.trans k3) (s3.mono (by omega)) (hs.imp (tup_keep sG k3)) ok gd (by omega) (by omega)⟩
end
end Lw

set_option Elab.async false
set_option linter.all false
set_option maxRecDepth 100000
set_option maxHeartbeats 2000000
namespace Ik
open PySem PySem.W PyProof.Rows
/-! x op= y by an own operator: the class has none of its own for op= -/
structure NoI (K : Frag) (C : Addr) (op : Operator) : Prop where
  mro : ∃ cd, clsIn K C = some cd ∧ cd.mro = [.ref C, .type "object"]
  no : findIn K (.ref C) (dunderI op.info.2) = some none
  ob : findIn K (.type "object") (dunderI op.info.2) = some none
theorem no_fills {prog : Program} {w : World} {K : Frag} {C : Addr} {h : Heap} {op : Operator} {add : Bool} (X : K.In h) (N : NoI K C op) : Looks (model prog w) h (fillsInplaceSlot (.ref C) op.info.2 add) false := by
  intro A Q E s k q
  obtain ⟨cd, hc, hm⟩ := N.mro
  have Lm : Looks (model prog w) h (mroOf (.ref C)) cd.mro := (looks_clsIn X hc).andThen (f := fun cd => pure cd.mro) .now
  have Lm' := Lm.keeps k
  obtain ⟨hh, g, d, tt, os⟩ := s
  have X' : K.In hh := X.keeps k
  have L1 : Looks (model prog w) hh (typeLookup (.ref C) (dunderI op.info.2)) none := looks_findIn X' N.no
  have L2 : Looks (model prog w) hh (typeLookup (.type "object") (dunderI op.info.2)) none := looks_findIn X' N.ob
  unfold fillsInplaceSlot
  refine wpAny_bind (Lm'.at ?_)
  rw [hm, List.anyM_cons]
  refine wpAny_bind ?_
  repeat lk
  exact q
theorem inop_K {prog : Program} {w : World} {K : Frag} {A : Around} {E : Value → Shared → Prop} {s : Shared} {x C L f : Addr} {h₀ : Heap} {m : PySem.Str → Option Value} {ox : Obj} {od : Option Obj} {op : Operator} {b : Value} {Q : Value → Shared → Prop} (F : Fr h₀ L s.heap m) (X₀ : K.In h₀) (I : InstAt s.heap x ox C od) (hb : Looks (model prog w) s.heap (typeOf b) (.ref C)) (N : NoI K C op)
    (hs : findIn K (.ref C) (PySem.dunder op.info.2) = some (some (.ref f))) (hf : isFn K (.ref f) = true)
    (h : wpAny (model prog w) A (call (.ref f) [.ref x, b]) (PySem.W.CmpBack Q) E s) : wpAny (model prog w) A (inplaceOp op (.ref x) b) Q E s := by
  have X := X₀.keeps F.keep
  obtain ⟨cd, hcd, hm⟩ := N.mro
  unfold inplaceOp
  refine wpAny_holding (wpAny_bind (I.type.here (wpAny_bind ((no_fills X N).here ?_))))
  simp only [Bool.false_eq_true, if_false]
  refine wpAny_bind ?_
  unfold binaryOp1
  refine wpAny_bind (I.type.here (wpAny_bind (hb.here (wpAny_bind ((fills_K X hcd hm hs).here ?_)))))
  simp only [beq_self_eq_true, if_true]
  refine wpAny_bind (wpAny_pure ?_)
  simp only [Bool.and_false, Bool.false_eq_true, if_false, Bool.false_and]
  refine wpAny_bind (wpAny_pure ?_)
  simp only [Bool.false_eq_true, if_false]
  refine wpAny_bind (m := tryMethod (.ref x) _ b) ?_
  unfold tryMethod
  refine wpAny_bind (special_fn X I hs (beq_iff_eq.mp hf) (wpAny_mono h (fun v s' hv => ?_) fun _ _ e => e))
  cases v <;> first | exact hv.elim | exact wpAny_pure (wpAny_pure (wpAny_pure hv))
end Ik

set_option Elab.async false
set_option linter.all false
set_option maxRecDepth 100000
set_option maxHeartbeats 2000000
namespace Ob
open PySem PySem.Spec PyProof.Rows L2
section
variable {X : Cx} {C f : Addr} {k : Nat} {fd : FuncData} {ps : List PySem.Str} {sp : Sp}
theorem op_inpO {op : Operator} (W : BinC X.K C op f) (N : Ik.NoI X.K C op) (F : FnOk X.prog X.w X.K X.mg X.base CX0 k f fd ps sp) (bt : Binds X.K fd ps []) (room : Room k X.A) : PIp X op (rBin C sp) := by
  rintro pins s σ H x y u v Q I rx ry ⟨a, dx, b, dy, fs, gs, rfl, ha, rfl, hb, pr⟩
  cases (show u = Value.ref a from rx)
  cases (show v = Value.ref b from ry)
  obtain ⟨m, J, _⟩ := ins_get I.hok ha
  obtain ⟨od, J, _⟩ := J.look
  obtain ⟨m', J', _⟩ := ins_get I.hok hb
  obtain ⟨od', J', _⟩ := J'.look
  have fr := I.ok.frames
  obtain ⟨m2, hF⟩ := I.fr
  refine Ik.inop_K hF I.ok.mod.kin J J'.type N W.at_ W.fn (thn (Oe.own_call fr room F bt I (vs := [.ref a, .ref b]) (.cons (show RelV (.ref a) (Value.ref a) from rfl) (.cons (show RelV (.ref b) (Value.ref b) from rfl) .nil)) pr) ?_)
  rintro r s2 ⟨z, H2, I2, rz, ⟨q, rfl⟩, h⟩
  cases (show r = Value.ref q from rz)
  exact ⟨.ref q, H2, I2, rfl, h⟩
end
end Ob

set_option Elab.async false
set_option linter.all false
set_option maxRecDepth 100000
set_option maxHeartbeats 4000000
namespace Lw
open PySem PySem.Spec PyProof.Rows L2
abbrev sTold : Stmt := top 51
section
variable {P : Program} {w : World} {K : PySem.W.Frag} {mg : Str → Option Value} {base : Heap}
/-! all but lists is kept -/
def Sol (H G : Hp) : Prop := ∀ b o, H b = some o → (∀ xs, o ≠ .lst xs) → G b = some o
theorem Sol.refl (H : Hp) : Sol H H := fun _ _ h _ => h
theorem Sol.trans {H G F : Hp} (x : Sol H G) (y : Sol G F) : Sol H F := fun b o h n => y b o (x b o h n) n
theorem Sol.same {H G : Hp} (s : Same H G) : Sol H G := fun b o h _ => s b o h
theorem Sol.keep {H G : Hp} {p : Addr} {n : Nat} (S : Src H p n) (k : Keep p H G) : Sol H G := fun b o h nl => by
  obtain ⟨d, s, t, ha, _⟩ := S
  refine k b o (fun e => ?_) h
  subst e
  rw [ha] at h
  cases h
  exact absurd rfl (nl _)
theorem Sol.set {H : Hp} {l : Addr} {xs : List V} {o : HO} (h : H l = some (.lst xs)) : Sol H (upd H l o) := fun b u hb nl => by
  rw [upd_ne (fun e => by subst e; rw [h] at hb; cases hb; exact nl _ rfl)]
  exact hb
theorem Sol.new {H G : Hp} {q : Addr} {o : HO} (s : Sol H G) (n : H q = none) : Sol H (upd G q o) := fun b u hb nl => by
  rw [upd_ne (ne_of_none hb n)]
  exact s b u hb nl
theorem Sol.tup {H G : Hp} (s : Sol H G) {b : Addr} {xs : List V} (h : H b = some (.tup xs)) : G b = some (.tup xs) := s b _ h (fun _ e => by cases e)
theorem Sol.dic {H G : Hp} (s : Sol H G) {b : Addr} {xs : List (Key × V)} (h : H b = some (.dK xs)) : G b = some (.dK xs) := s b _ h (fun _ e => by cases e)
theorem Sol.ins {H G : Hp} (s : Sol H G) {b C dx : Addr} {fs : List (Str × V)} (h : H b = some (.ins C dx fs)) : G b = some (.ins C dx fs) := s b _ h (fun _ e => by cases e)
theorem Fi.sol {CF q : Addr} {H G : Hp} {tms : List Tm} (h : Fi CF H q tms) (s : Sol H G) : Fi CF G q tms := by
  obtain ⟨dx, t, xs, h1, h2, h3⟩ := h
  exact ⟨dx, t, xs, s.ins h1, s.tup h2, paired_map (fun _ _ ⟨e, a1, a2, a3⟩ => ⟨e, a1, s.tup a2, a3⟩) h3⟩
theorem ShV.sol {H G : Hp} (s : Sol H G) {S : Shp} {v : V} (h : ShV H S v) : ShV G S v := h.imp fun _ _ e => s.tup e
theorem EnvOk.sol {H G : Hp} (s : Sol H G) {key : Int} {c : Addr} {env : Str → Option Int} (h : EnvOk H key c env) : EnvOk G key c env := by
  obtain ⟨h1, kvs, h2, h3⟩ := h
  exact ⟨h1, kvs, s.dic h2, h3⟩
/-! a filter that goes by a shape -/
def Goes (CF : Addr) (H : Hp) (x v : V) : Prop := ∃ (q : Addr) (tms : List Tm) (S : Shp), x = .ref q ∧ Fi CF H q tms ∧ tms.length < 60 ∧ ShV H S v ∧ S.ok ∧ S.depth ≤ 13 ∧ ∀ env, evs env tms [] = some [sem env S]
theorem Goes.sol {CF : Addr} {H G : Hp} {x v : V} (s : Sol H G) (h : Goes CF H x v) : Goes CF G x v := by
  obtain ⟨q, tms, S, e, h1, h2, h3, h4⟩ := h
  exact ⟨q, tms, S, e, h1.sol s, h2, h3.sol s, h4⟩
def spTold (K : PySem.W.Frag) (CF : Addr) : Sp := fun vs H Q _ => ∃ (fl sl : Addr) (xs ys : List V) (key : Int) (c : Addr) (env : Str → Option Int), vs = [.ref fl, .ref sl, .int key, .ref c] ∧ SqL K H fl xs ∧ SqL K H sl ys ∧ Paired (Goes CF H) xs ys ∧ EnvOk H key c env ∧ ∀ G, Same H G → Q (.bl true) G
abbrev nTold : List Str := ["filters", "shapes", "key", "cells", "chosen", "shape"]
theorem scTold : FnScope nTold ["filters", "shapes", "key", "cells"] (defScope sTold) := ⟨rfl, rfl, rfl, by decide +kernel, rfl, by decide +kernel, by decide +kernel⟩
theorem ok_told {CF f : Addr} {fd : FuncData} (F : FnP K "_law_told" sTold f fd) (T : TxtF K mg CF) (hz : mg "zip" = none) (cS : Cal P w K mg base CX0 "_law_same" 1 ["told", "due"] spSame) (cT : Cal P w K mg base CX0 "_law_truth" 18 ["shape", "key", "cells"] (spTruth 13)) (mT : MetF P w K mg base CF "truth" 5 ["self", "key", "cells"] (spTruM CF)) : FnOk P w K mg base CX0 19 f fd ["filters", "shapes", "key", "cells"] (spTold K CF) := by
  obtain ⟨f1, fd1, m1, F1, b1⟩ := mT.ex
  refine F.ok scTold (fun vs H Q E h => ?_) (fun cdv A outer s0 H vs Q E hr h => ?_)
  · obtain ⟨fl, sl, xs, ys, key, c, env, rfl, _⟩ := h
    rfl
  · obtain ⟨fl, sl, xs, ys, key, c, env, rfl, hx, hy, pr, eo, k⟩ := h
    have nd := scTold.nd
    have h1 : Room 1 _ := hr.mono (by decide)
    have h5 : Room 5 _ := hr.mono (by decide)
    refine ⟨_, PSs.nox (pss_cons (ps_for PassesOwn.never rfl (pi_zip (by rfl) hz (pa_cons (pv 0) (pa_cons (pv 1) pa_nil))) (pg_tup (by rfl) (pgs_cons (pg_name (i := 4) nd rfl (Or.inl rfl)) (pgs_cons (pg_name (i := 5) nd rfl (Or.inl rfl)) pgs_nil)))
        (pss_one (ps_if (pt_not (pt_val (pe_cal cS h1 (pa_cons (pe_meth (pv 4) T.cl m1 F1 h5 b1 .nil pass0 (pa_cons (pv 2) (pa_cons (pv 3) pa_nil))) (pa_cons (pe_cal cT hr (pa_cons (pv 5) (pa_cons (pv 2) (pa_cons (pv 3) pa_nil)))) pa_nil))))) (pss_one (ps_ret pe_bl)) pss_nil)))
      (pss_one (ps_ret pe_bl))), ?_⟩
    refine ⟨_, rfl, _, rfl, fl, sl, xs, ys, rfl, hx, hy, ?_⟩
    refine RZ.for_zipL (Paired.length pr) (fun i σ G => ∃ v4 v5 : Option V, σ = [some (.ref fl), some (.ref sl), some (.int key), some (.ref c), v4, v5] ∧ Same H G) ⟨_, _, rfl, Same.refl H⟩ (fun i σ G ⟨_, _, _, s⟩ => ⟨s.seq hx, s.seq hy⟩) ?_ ?_
    · rintro i x y t σ G ex ey ⟨v4, v5, rfl, s⟩ nt
      have st : Same G (upd G t (.tup [x, y])) := Lw.Same.new (Same.refl G) nt
      obtain ⟨x', e', g⟩ := paired_get pr ey
      rw [ex] at e'
      cases e'
      have s2 := s.trans st
      obtain ⟨q, tms, S, rfl, hf, hl, hs, ok, dp, ev⟩ := g.sol (Sol.same s2)
      obtain ⟨dx, tt, us, e1, e2, e3⟩ := id hf
      refine ⟨t, _, rfl, SqT.of upd_same, rfl, _, _, rfl, _, _, rfl, rfl, ?_⟩
      refine s1_if (fun b G3 => b = false ∧ Same H G3) (fun Q q1 => ?_) (fun _ h => by cases h.1) (fun G3 h => ⟨_, _, rfl, h.2⟩)
      refine ⟨_, rfl, q, dx, _, rfl, e1, rfl, _, rfl, _, rfl, q, c, tms, key, env, sem env S, [], rfl, hf, hl, eo.same s2, ev env, fun G3 s3 => ?_⟩
      refine ⟨_, rfl, _, rfl, _, rfl, y, key, c, env, S, rfl, hs.same s3, ok, dp, eo.same (s2.trans s3), fun G4 s4 => ⟨_, _, rfl, fun G5 s5 => ⟨_, rfl, q1 _ _ ⟨by rw [decide_eq_true rfl]; rfl, ((s2.trans s3).trans s4).trans s5⟩⟩⟩⟩
    · rintro σ G ⟨v4, v5, rfl, s⟩
      exact k _ s
end
end Lw

set_option Elab.async false
set_option linter.all false
set_option maxRecDepth 100000
set_option maxHeartbeats 2000000
namespace Mw
open PySem PySem.Spec PyProof.Rows L2
/-! o.m(k = v, ..), all by name -/
section
variable {X : Cx} {CX : CXT} {k : Nat} {C f : Addr} {fd : FuncData} {ps ks : List PySem.Str} {sp : Sp} {E : XK} {o : Expr} {kws : List Keyword} {m : PySem.Str} {pos apos : Pos} {ta : TE} {tk : TA} {pl : Sem Bool} {g : List Value → List Value → List Value} {gV : List V → List V → List V}
def tMethW (C : Addr) (m : PySem.Str) (n : Nat) (sp : Sp) (gV : List V → List V → List V) (E : XK) (ta : TE) (tk : TA) : TE := fun σ H Q => ta σ H fun x G => ∃ (a dx : Addr) (fs : List (PySem.Str × V)), x = .ref a ∧ G a = some (.ins C dx fs) ∧ fs.lookup m = none ∧ tk σ G fun zs G2 => zs.length = n ∧ sp (gV [.ref a] zs) G2 Q E
theorem pe_methW (he : PE X o ta) (c : Cls X.K C) (hm : Meth X.K C m f) (F : FnOk X.prog X.w X.K X.mg X.base CX k f fd ps sp) (hr : Room k X.A) (hb : KBn X.K fd ps 1 ks g gV) (hx : Passes CX X E) (hkw : PK X kws tk)
    (hall : (backToKw pos (keywordEach kws X.env)).all (·.1.isSome) = true := by rfl) (hks : (backToKw pos (keywordEach kws X.env)).filterMap (·.1) = ks := by rfl)
    (hpl : ((backTo pos (starEach [] X.env)).any (·.1) || (backToKw pos (keywordEach kws X.env)).any (·.1.isNone)) = false := by rfl)
    (ht : eval (.Call (.Attribute o m apos) [] kws pos) X.env = (do
      let a ← eval o X.env
      standAt apos.atName
      let (f, first) ← holding [a] (getMethod a m pl)
      callWith pos f first (backTo pos (starEach [] X.env)) (backToKw pos (keywordEach kws X.env))) := by rfl) :
    PE X (.Call (.Attribute o m apos) [] kws pos) (tMethW C m ks.length sp gV E ta tk) := by
  constructor
  intro pins s σ H Q I h
  refine PySem.W.methodCall_KW (pl := pl) (thn (he.run pins s σ H _ I h) ?_) ht
  rintro u s1 ⟨x, G, I1, rx, a, dx, fs, rfl, ea, l, q⟩
  obtain rfl : u = Value.ref a := rx
  refine getmeth_ok I1 ea c hm l ?_
  refine PySem.W.callWith_KW0 (first := [.ref a]) (h₀ := X.base) I1.ok.mod.kin hm.kp hall (thn (hkw.run pos pins s1 σ G _ I1 q) ?_) hpl
  rintro ws s2 ⟨zs, G2, I2, rz, l2, q2⟩
  refine ⟨I2.kIn, ?_⟩
  rw [hks]
  have one : Vals [V.ref a] [Value.ref a] := .cons (show RelV (.ref a) (Value.ref a) from rfl) .nil
  have r2 := hb.rel one rz
  have bt := hb.to s2 [.ref a] ws I2.kIn rfl (rz.length.symm.trans l2)
  refine wpAny_call (codeAny_mono (F.run X.A X.stack s2 G2 ⟨[.ref a], ks.zip ws⟩ (g [.ref a] ws) (gV [.ref a] zs) Q E hr I2.env0 bt r2 q2) ?_)
  intro r s' hq
  match r, hq with
  | .error e, hq => exact hx pins σ G2 s2 e s' I2 hq
  | .ok (.ret u), hq => exact I2.after hq
  | .ok .next, hq => exact hq.elim
  | .ok .brk, hq => exact hq.elim
  | .ok .cont, hq => exact hq.elim
/-- x is not b, x None or a bool, b a bool -/
theorem op_notNb : OpR X (compareOp .IsNot) (fun x y H Q => ∃ (a : Option Bool) (b : Bool), x = (match a with | some c => .bl c | none => .non) ∧ y = .bl b ∧ Q (.bl (!decide (a = some b))) H) := by
  intro pins s σ H x y v u Q I rx ry h
  obtain ⟨a, b, rfl, rfl, q⟩ := h
  cases (show u = Value.bool b from ry)
  cases a with
  | none =>
    cases (show v = Value.none from rx)
    exact wpAny_isNot_other rfl (fun z => by cases z) ⟨.bl true, H, I, rfl, by simpa using q⟩
  | some c =>
    cases (show v = Value.bool c from rx)
    by_cases e : c = b
    · subst e
      exact wpAny_isNot_self rfl ⟨.bl false, H, I, rfl, by simpa using q⟩
    · exact wpAny_isNot_other rfl (fun z => e (Value.bool.inj z)) ⟨.bl true, H, I, rfl, by simpa [e] using q⟩
end
end Mw

set_option Elab.async false
set_option linter.all false
set_option maxRecDepth 100000
set_option maxHeartbeats 4000000
namespace Lk
open PySem PySem.Spec PyProof.Rows L2
/-! list(d.keys()) -/
def tListKeys (te : TE) : TE := fun σ H Q => te σ H fun x H1 => ∃ (d : Addr) (kvs : List (Key × V)), x = .ref d ∧ H1 d = some (.dK kvs) ∧ ∀ p, H1 p = none → Q (.ref p) (upd H1 p (.lst (kvs.map fun kv => kV kv.1)))
section
variable {X : Cx} {e : Expr} {te : TE} {p apos cpos pos : Pos}
theorem pe_listKeys (hc : X.calm = true) (he : PE X e te) (hg : Gl X "list") (hm : X.mg "list" = none) (hv : bootBuiltins "list" = some (.type "list")) (hbase : attributeBase e "keys" X.env (eval e X.env) = eval e X.env := by rfl) (hline : (apos.endLine == cpos.line) = true := by rfl)
    (hs : starEach [.Call (.Attribute e "keys" apos) [] [] cpos] X.env = (false, eval (.Call (.Attribute e "keys" apos) [] [] cpos) X.env) :: starEach [] X.env := by rfl) :
    PE X (.Call (.Name "list" p) [.Call (.Attribute e "keys" apos) [] [] cpos] [] pos) (tListKeys te) := by
  refine ⟨fun pins s σ H Q I hq => ?_⟩
  refine wpAny_Call_Name_kw (ld_blt I hg hm hv ?_)
  refine PyProof.Rows.callWith_type1 ?_ hs rfl
  rw [hs]
  show wpAny _ _ (spliced ((false, eval (.Call (.Attribute e "keys" apos) [] [] cpos) X.env) :: backTo pos (starEach [] X.env))) _ _ s
  refine Calls.spliced_cons ?_
  refine wpAny_Call_method (T := "dict") (id := "dict.keys") hbase rfl hline F.plainAttrs_dict F.slot_dict_keys F.type_dict_keys (thn (he.run pins s σ H _ I hq) fun u s1 ⟨x, H1, I1, rx, d, kvs, ex, hd, q⟩ => ?_)
  subst ex
  obtain rfl : u = Value.ref d := rx
  obtain ⟨hz, hs0, vs, kv, hdo⟩ := I1.hok d _ hd
  obtain ⟨ep, hat⟩ := hdo.dictAt
  have lk : kvs.length = vs.length := Paired.length kv
  have I2 : Inv X pins σ H1 { s1 with heap := s1.heap.push { cls := .type "dict_keys", data := .fields #[.ref d] } } := I1.kept (t' := s1.toks) fun b ob q => Heap.get?_push_of_some _ q
  have ek : (kvs.map fun kv => kV kv.1) = vs.map fun p => kV p.1 := by
    have e := congrArg (List.map kV) kv.keys
    rw [List.map_map, List.map_map] at e
    exact e
  refine ⟨hdo.typeIs, hdo.mapOf.noDict, ?_⟩
  show wpAny _ _ (callWith cpos (.builtin "dict.keys") [.ref d] [] []) _ X.xe s1
  refine method_meetsIn F.slot_dict_keys F.entry_dict_keys rfl (PySem.evalArgs_none ⟨rfl, hdo.typeIs, F.args_dict_keys_1 _, _, PySem.W.kdl_meets_keys (mixKind X.prog X.w) d hs0, ⟨vs, hdo⟩, ?_⟩)
  refine Calls.spliced_nil ?_
  refine PySem.W.kdl_call (PySem.W.kdl_keys (knd := mixKind X.prog X.w) (kvs := vs) (ep := ep)) (I1.ok.hd hc) ⟨⟨_, Heap.get?_push_size _ rfl, rfl, rfl⟩, hat.push _⟩ (by rw [← lk]; exact hz) fun h' tk acc c' hk hD hacc => ?_
  have hv2 : Vals (vs.map fun p => kV p.1) acc.toList := keys_at (by rw [Array.length_toList]; exact hacc.1) fun j v e => hacc.2 j v (by rw [← Array.getElem?_toList]; exact e)
  refine ⟨.ref _, upd H1 _ (.lst (kvs.map fun kv => kV kv.1)), I2.laid (t' := tk) hk (Nat.le_refl _)
    (show ObjOk X.prog X.w _ _ _ (.lst (kvs.map fun kv => kV kv.1)) from ⟨by rw [List.length_map]; exact hz, acc.toList, c', by rw [ek]; exact hv2, by rw [Array.toArray_toList]; exact hD⟩), rfl, q _ (I2.hok.fresh (Nat.le_refl _))⟩
end
end Lk
namespace Lw
open PySem PySem.Spec PyProof.Rows L2
/-! one order of texts only -/
theorem rising_all : ∀ (r : List Str) (p : Str), risingS p r = true → (∀ y ∈ r, p.cps.toList ≤ y.cps.toList) ∧ sortedS r = true
  | [], _, _ => ⟨fun _ h => (List.not_mem_nil h).elim, rfl⟩
  | x :: r, p, h => by
    unfold risingS at h
    rw [Bool.and_eq_true, Bool.not_eq_true', ltCps_eq] at h
    have h1 : ¬ x.cps.toList < p.cps.toList := of_decide_eq_false h.1
    have h2 : p.cps.toList ≤ x.cps.toList := List.not_lt.mp h1
    refine ⟨fun y hy => ?_, h.2⟩
    rcases List.mem_cons.mp hy with rfl | hy
    · exact h2
    · exact List.le_trans h2 ((rising_all r x h.2).1 y hy)
theorem str_ext {a b : Str} (h : a.cps.toList = b.cps.toList) : a = b := by
  have := Array.toList_inj.mp h
  cases a
  cases b
  cases this
  rfl
theorem sorted_one : ∀ {xs ys : List Str}, sortedS xs = true → sortedS ys = true → xs.Perm ys → xs = ys
  | [], ys, _, _, p => by rw [List.nil_perm.mp p]
  | x :: xs, [], _, _, p => by cases List.perm_nil.mp p
  | x :: xs, y :: ys, hx, hy, p => by
    obtain ⟨a1, a2⟩ := rising_all xs x hx
    obtain ⟨b1, b2⟩ := rising_all ys y hy
    have e : x = y := by
      rcases List.mem_cons.mp (p.mem_iff.mp List.mem_cons_self) with e | e
      · exact e
      rcases List.mem_cons.mp (p.mem_iff.mpr (List.mem_cons_self (a := y))) with e2 | e2
      · exact e2.symm
      exact str_ext (List.le_antisymm (a1 y e2) (b1 x e))
    subst e
    rw [sorted_one a2 b2 (List.Perm.cons_inv p)]
end Lw

set_option Elab.async false
set_option linter.all false
set_option maxRecDepth 100000
set_option maxHeartbeats 4000000
namespace Lw
open PySem PySem.Spec PyProof.Rows L2
abbrev sLaw : Stmt := top 52
section
variable {P : Program} {w : World} {K : PySem.W.Frag} {mg : Str → Option Value} {base : Heap}
/-! the law -/
def Bas (H0 : Hp) (p : Addr) (H : Hp) : Prop := ∀ b o, H0 b = some o → b ≠ p ∧ H b = some o
theorem Bas.keep {H0 H H' : Hp} {p : Addr} (h : Bas H0 p H) (k : Keep p H H') : Bas H0 p H' := fun b o e => ⟨(h b o e).1, k b o (h b o e).1 (h b o e).2⟩
theorem Bas.out {H0 H : Hp} {p : Addr} (h : Bas H0 p H) : Same H0 H := fun b o e => (h b o e).2
theorem Bas.set {H0 H : Hp} {p b : Addr} {o : HO} (h : Bas H0 p H) (n : H0 b = none) : Bas H0 p (upd H b o) := fun c u e => ⟨(h c u e).1, by rw [upd_ne (ne_of_none e n)]; exact (h c u e).2⟩
theorem Bas.new {H0 H : Hp} {p b : Addr} (h : Bas H0 p H) (n : H b = none) : H0 b = none := by
  cases e : H0 b with
  | none => rfl
  | some u => have := (h b u e).2; rw [n] at this; cases this
theorem Fi.imp {CF q : Addr} {H G : Hp} {tms : List Tm} (h : Fi CF H q tms) (k1 : ∀ b C dx fs, H b = some (.ins C dx fs) → G b = some (.ins C dx fs)) (k2 : ∀ b xs, H b = some (.tup xs) → G b = some (.tup xs)) : Fi CF G q tms := by
  obtain ⟨dx, t, xs, h1, h2, h3⟩ := h
  exact ⟨dx, t, xs, k1 _ _ _ _ h1, k2 _ _ h2, paired_map (fun _ _ ⟨e, a1, a2, a3⟩ => ⟨e, a1, k2 _ _ a2, a3⟩) h3⟩
theorem ins_keep {a : Addr} {n : Nat} {H G : Hp} (S : Src H a n) (k : Keep a H G) (b C dx : Addr) (fs : List (Str × V)) (h : H b = some (.ins C dx fs)) : G b = some (.ins C dx fs) := by
  obtain ⟨d, s, t, ha, _⟩ := S
  refine k b _ (fun e => ?_) h
  subst e
  rw [ha] at h
  cases h
theorem dic_keep {a : Addr} {n : Nat} {H G : Hp} (S : Src H a n) (k : Keep a H G) (b : Addr) (kvs : List (Key × V)) (h : H b = some (.dK kvs)) : G b = some (.dK kvs) := by
  obtain ⟨d, s, t, ha, _⟩ := S
  refine k b _ (fun e => ?_) h
  subst e
  rw [ha] at h
  cases h
theorem Keep.none {p d : Addr} {G G2 : Hp} (k : Keep p G G2) (nd : G2 d = none) (ne : d ≠ p) : G d = none := by
  cases e : G d with
  | none => rfl
  | some o => rw [k d o ne e] at nd; cases nd
/-- what was asked -/
def Ask (s : Shp) (G : Hp) (e : V) : Prop := ∃ (t c : Addr) (key : Int) (env : Str → Option Int), e = .ref t ∧ G t = some (.tup [.int key, .ref c, tV (sem env s)]) ∧ EnvOk G key c env
theorem Ask.imp {s : Shp} {H G : Hp} {e : V} (h : Ask s H e) (k2 : ∀ b xs, H b = some (.tup xs) → G b = some (.tup xs)) (k3 : ∀ b kvs, H b = some (.dK kvs) → G b = some (.dK kvs)) : Ask s G e := by
  obtain ⟨t, c, key, env, rfl, h1, h2, kvs, h3, h4⟩ := h
  exact ⟨t, c, key, env, rfl, k2 _ _ h1, h2, kvs, k3 _ _ h3, h4⟩
def RowV (kvs : List (Key × V)) : Prop := ∀ k v, valV kvs k = some v → (∃ i : Int, v = .int i) ∨ v = .non
theorem RowV.put {kvs : List (Key × V)} (h : RowV kvs) (k : Key) {v : V} (hv : (∃ i : Int, v = .int i) ∨ v = .non) : RowV (putK kvs k v) := fun j u e => by
  rw [valV_put] at e
  split at e
  · cases e; exact hv
  · exact h j u e
def iV : Option V → Option Int
  | some (.int i) => some i
  | _ => none
def envR (key : Int) (kvs : List (Key × V)) : Str → Option Int := fun z => if z = "key" then some key else iV (valV kvs (.inr z))
theorem envR_ok {G : Hp} {key : Int} {d : Addr} {kvs : List (Key × V)} (h : G d = some (.dK kvs)) (r : RowV kvs) : EnvOk G key d (envR key kvs) := by
  refine ⟨if_pos rfl, kvs, h, fun z hz => ?_⟩
  unfold envR
  rw [if_neg hz]
  cases e : valV kvs (.inr z) with
  | none => rfl
  | some v =>
    rcases r _ v e with ⟨i, rfl⟩ | rfl
    · rfl
    · rfl
theorem depth_strs : ∀ ks : List Str, PyData.depthAll (ks.map PyData.str) = 0
  | [] => rfl
  | z :: r => by
    show max (PyData.depth (.str z)) (PyData.depthAll (r.map PyData.str)) = 0
    rw [depth_strs r]
    rfl
theorem canLay_strs : ∀ ks : List Str, (∀ z ∈ ks, IsWord z) → PyData.canLayAll0 (ks.map PyData.str) = true
  | [], _ => rfl
  | z :: r, h => by
    show (PyData.canLay0 (.str z) && PyData.canLayAll0 (r.map PyData.str)) = true
    rw [canLay_strs r fun y hy => h y (List.mem_cons_of_mem _ hy)]
    have h3 : PyData.canLay0 (.str z) = true := by
      show z.cps.all (· < 0x110000) = true
      rw [← Array.all_toList, List.all_eq_true]
      intro c hc
      have := (h z List.mem_cons_self).2.2 c hc
      exact decide_eq_true (by omega)
    rw [h3]
    rfl
theorem shaped_strs (ks : List Str) (h : ∀ z ∈ ks, IsWord z) : SeqAt.shaped (.list (ks.map PyData.str)) = true := by
  have e1 : PyData.canLay0 (.list (ks.map PyData.str)) = true := canLay_strs ks h
  have e2 : PyData.depth (.list (ks.map PyData.str)) ≤ 64 := by
    have e3 := depth_strs ks
    simp only [PyData.depth, e3]
    decide
  unfold SeqAt.shaped
  rw [e1, decide_eq_true e2]
  rfl
theorem eqv_strs {ks : List Str} (h : ∀ z ∈ ks, IsWord z) : PyData.eqv (.list (ks.map PyData.str)) (.list (ks.map PyData.str)) = true := PySem.SeqAt.eqv_refl _ (canLay_strs ks h)
/-! the words of a shape -/
theorem good_words : ∀ (s : Shp), s.good → ∀ m ∈ s.tms, ∀ z, m.name = some z → IsWord z
  | .every, _, m, hm, z, e => by rw [List.mem_singleton.mp hm] at e; cases e
  | .nothing, _, m, hm, z, e => by rw [List.mem_singleton.mp hm] at e; cases e
  | .empty y, g, m, hm, z, e => by rw [List.mem_singleton.mp hm] at e; cases e; exact g
  | .comp y _ _, g, m, hm, z, e => by rw [List.mem_singleton.mp hm] at e; cases e; exact g
  | .not s, g, m, hm, z, e => by
    rcases List.mem_append.mp (show m ∈ s.tms ++ [.not] from hm) with hm | hm
    · exact good_words s g m hm z e
    · rw [List.mem_singleton.mp hm] at e; cases e
  | .bin w s t, g, m, hm, z, e => by
    have hm : m ∈ (if w = "and" then s.tms ++ t.tms ++ [Tm.and] else if w = "or" then s.tms ++ t.tms ++ [Tm.or] else if w = "minus" then s.tms ++ (t.tms ++ [Tm.not]) ++ [Tm.and] else s.tms ++ t.tms ++ [Tm.xor]) := hm
    have fin : m ∈ s.tms ∨ m ∈ t.tms ∨ m = .and ∨ m = .or ∨ m = .not ∨ m = .xor := by
      split at hm
      · simp only [List.mem_append, List.mem_singleton] at hm
        rcases hm with (h | h) | h <;> simp [h]
      · split at hm
        · simp only [List.mem_append, List.mem_singleton] at hm
          rcases hm with (h | h) | h <;> simp [h]
        · split at hm
          · simp only [List.mem_append, List.mem_singleton] at hm
            rcases hm with (h | h | h) | h <;> simp [h]
          · simp only [List.mem_append, List.mem_singleton] at hm
            rcases hm with (h | h) | h <;> simp [h]
    rcases fin with h | h | h | h | h | h
    · exact good_words s g.1 m h z e
    · exact good_words t g.2 m h z e
    all_goals (rw [h] at e; cases e)
theorem dp_strs {H : Hp} : ∀ ks : List Str, DpAll K H (ks.map V.str) (ks.map PyData.str)
  | [] => .nil
  | z :: r => .cons (.str z) (dp_strs r)
/-! the law -/
theorem sq_ifJ {c : TT} {t1 t2 u : TS} {D : Ends} {σ : L2.St} {H : Hp} (P2 : L2.St → Hp → Prop) (h : ∀ D' : Ends, (∀ τ G, P2 τ G → D'.nx τ G) → (tIfS c t1 t2) D' σ H) (k : ∀ τ G, P2 τ G → u D τ G) : tSeq (tIfS c t1 t2) u D σ H := h _ k
theorem tms_and (s t : Shp) : (Shp.bin "and" s t).tms = s.tms ++ t.tms ++ [.and] := if_pos rfl
theorem tms_or (s t : Shp) : (Shp.bin "or" s t).tms = s.tms ++ t.tms ++ [.or] := (if_neg (by decide)).trans (if_pos rfl)
theorem tms_minus (s t : Shp) : (Shp.bin "minus" s t).tms = s.tms ++ (t.tms ++ [.not]) ++ [.and] := (if_neg (by decide)).trans ((if_neg (by decide)).trans (if_pos rfl))
theorem tms_differ (s t : Shp) : (Shp.bin "differ" s t).tms = s.tms ++ t.tms ++ [.xor] := (if_neg (by decide)).trans ((if_neg (by decide)).trans (if_neg (by decide)))
theorem goes_of {CF q : Addr} {G : Hp} {S : Shp} {v : V} {tms : List Tm} (e : S.tms = tms) (h : Fi CF G q tms) (l : S.size < 60) (hs : ShV G S v) (ok : S.ok) (dp : S.depth ≤ 13) : Goes CF G (.ref q) v := by
  subst e
  exact ⟨q, S.tms, S, rfl, h, Nat.lt_of_le_of_lt (Shp.len S) l, hs, ok, dp, fun env => evs_tms env S []⟩
theorem not3_not3 (a : Option Bool) : not3 (not3 a) = a := by
  rcases a with _ | _ | _ <;> rfl
theorem goes_nn {CF q : Addr} {G : Hp} {S : Shp} {v : V} (h : Fi CF G q (S.tms ++ [.not] ++ [.not])) (l : S.size < 50) (hs : ShV G S v) (ok : S.ok) (dp : S.depth ≤ 13) : Goes CF G (.ref q) v := by
  have ln := Shp.len S
  refine ⟨q, _, S, rfl, h, by rw [List.length_append, List.length_append, List.length_singleton]; omega, hs, ok, dp, fun env => ?_⟩
  have e := evs_tms env (.not (.not S)) []
  rw [show sem env (.not (.not S)) = sem env S from not3_not3 _] at e
  exact e
/-- an entry -/
def Ent (wd : Str) (G : Hp) (e : V) : Prop := ∃ (t c : Addr) (key : Int) (v : V), e = .ref t ∧ G t = some (.tup [.int key, .ref c]) ∧ G c = some (.dK [(.inr wd, v)]) ∧ ((∃ i : Int, v = .int i) ∨ v = .non)
theorem Ent.sol {wd : Str} {H G : Hp} {e : V} (s : Sol H G) (h : Ent wd H e) : Ent wd G e := by
  obtain ⟨t, c, key, v, e1, h1, h2, h3⟩ := h
  exact ⟨t, c, key, v, e1, s.tup h1, s.dic h2, h3⟩
theorem row1 {wd : Str} {v : V} (h : (∃ i : Int, v = .int i) ∨ v = .non) : RowV [(.inr wd, v)] := RowV.put (kvs := []) (fun k u e => by cases e) (.inr wd) h
/-- what stands still -/
structure W14 (CF : Addr) (H : Hp) (p l pl : Addr) (wd : Str) (ms : List Int) (s t : Shp) (fa ga : Addr) (v1 v2 : V) (n : Nat) (G : Hp) : Prop where
  bas : Bas H p G
  src : Src G p n
  gl : G l = some (.lst [.str "key", .str wd])
  gp : G pl = some (.lst (ms.map V.int))
  fa : Fi CF G fa s.tms
  ga : Fi CF G ga t.tms
  sh1 : ShV G s v1
  sh2 : ShV G t v2
section
variable {CF p l pl fa ga : Addr} {H : Hp} {wd : Str} {ms : List Int} {s t : Shp} {v1 v2 : V} {n m : Nat} {G F : Hp}
theorem W14.keep (h : W14 CF H p l pl wd ms s t fa ga v1 v2 n G) (lp : l ≠ p) (pp : pl ≠ p) (k : Keep p G F) (sF : Src F p m) : W14 CF H p l pl wd ms s t fa ga v1 v2 m F :=
  have so := Sol.keep h.src k
  ⟨h.bas.keep k, sF, k _ _ lp h.gl, k _ _ pp h.gp, h.fa.sol so, h.ga.sol so, h.sh1.sol so, h.sh2.sol so⟩
theorem W14.same (h : W14 CF H p l pl wd ms s t fa ga v1 v2 n G) (k : Same G F) : W14 CF H p l pl wd ms s t fa ga v1 v2 n F :=
  ⟨h.bas.keep (Keep.of_same k), h.src.same k, k _ _ h.gl, k _ _ h.gp, h.fa.same k, h.ga.same k, h.sh1.same k, h.sh2.same k⟩
/-- a list of the law's own changes -/
theorem W14.set (h : W14 CF H p l pl wd ms s t fa ga v1 v2 n G) {e : Addr} {xs : List V} {o : HO} (ge : G e = some (.lst xs)) (He : H e = none) (ep : e ≠ p) (el : l ≠ e) (epl : pl ≠ e) : W14 CF H p l pl wd ms s t fa ga v1 v2 n (upd G e o) :=
  have so := Sol.set (o := o) ge
  ⟨h.bas.set He, by
    obtain ⟨x1, x2, x3, y1, y2⟩ := h.src
    exact ⟨x1, x2, x3, by rw [upd_ne ep.symm]; exact y1, y2⟩, by rw [upd_ne el]; exact h.gl, by rw [upd_ne epl]; exact h.gp, h.fa.sol so, h.ga.sol so, h.sh1.sol so, h.sh2.sol so⟩
end
structure Cals (P : Program) (w : World) (K : PySem.W.Frag) (mg : Str → Option Value) (base : Heap) (CF : Addr) : Prop where
  src : Cal P w K mg base CX0 "_law_source" 1 ["script", "place"] (spSource K)
  draw : Cal P w K mg base CX0 "_law_draw" 1 ["source", "many"] spDraw
  of : Cal P w K mg base CX0 "_law_of" 2 ["source", "some"] (spOf K)
  num : Cal P w K mg base CX0 "_law_number" 2 ["source"] spNumber
  near : Cal P w K mg base CX0 "_law_near" 3 ["source", "numbers"] (spNear K)
  word : Cal P w K mg base CX0 "_law_word" 2 ["source", "taken"] (spWord K)
  same : Cal P w K mg base CX0 "_law_same" 1 ["told", "due"] spSame
  shape : Cal P w K mg base CX0 "_law_shape" 4 ["source", "names", "pool", "most"] (spShape K)
  filter : Cal P w K mg base CX0 "_law_filter" 16 ["shape"] (spFil CF 11)
  told : Cal P w K mg base CX0 "_law_told" 19 ["filters", "shapes", "key", "cells"] (spTold K CF)
  truth : MetF P w K mg base CF "truth" 5 ["self", "key", "cells"] (spTruM CF)
  ment : MetF P w K mg base CF "mentions" 1 ["self"] (spMent CF)
  inv : InvF P w K mg base CF 3 (spUn CF .not)
  and : OpsF P w K mg base CF .BitAnd 3 (spBin CF .and)
  or : OpsF P w K mg base CF .BitOr 3 (spBin CF .or)
  xor : OpsF P w K mg base CF .BitXor 3 (spBin CF .xor)
  sub : OpsF P w K mg base CF .Sub 4 (spSub CF)
  nA : Ik.NoI K CF .BitAnd
  nO : Ik.NoI K CF .BitOr
  nX : Ik.NoI K CF .BitXor
  nS : Ik.NoI K CF .Sub
  range : mg "range" = none
  max : mg "max" = none
  min : mg "min" = none
  len : mg "len" = none
  dict : mg "dict" = none
def spLaw (K : PySem.W.Frag) : Sp := fun vs H Q _ => ∃ (a : Addr) (ns : List Int), vs = [.ref a] ∧ SqL K H a (ns.map V.int) ∧ ns.length ≤ 63 ∧ ∀ H', Q (.bl true) H'
abbrev nLaw : List Str := ["script", "place", "source", "names", "pool", "one", "other", "f", "g", "entries", "turn", "cells", "filters", "shapes", "key", "kind", "kept", "mine", "before", "k"]
theorem scLaw : FnScope nLaw ["script"] (defScope sLaw) := ⟨rfl, rfl, rfl, by decide +kernel, rfl, by decide +kernel, by decide +kernel⟩
theorem ok_law {CF f : Addr} {fd : FuncData} (F : FnP K "law" sLaw f fd) (c : Cals P w K mg base CF) (T : TxtF K mg CF) : FnOk P w K mg base CX0 20 f fd ["script"] (spLaw K) := by
  obtain ⟨f1, fd1, m1, F1, b1⟩ := c.truth.ex
  obtain ⟨fm, fdm, mm, FM, bM⟩ := c.ment.ex
  obtain ⟨fi, fdi, ai, ni, FI, bI⟩ := c.inv.ex
  obtain ⟨fa, fda, WA, FA, bA⟩ := c.and.ex
  obtain ⟨fo, fdo, WO, FO, bO⟩ := c.or.ex
  obtain ⟨fx, fdx, WX, FX, bX⟩ := c.xor.ex
  obtain ⟨fs, fds, WS, FS, bS⟩ := c.sub.ex
  refine F.ok scLaw (fun vs H Q E h => ?_) (fun cdv A outer s0 H vs Q E hr h => ?_)
  · obtain ⟨a, ns, rfl, _⟩ := h
    rfl
  · obtain ⟨a, ns, rfl, hS, hlen, k⟩ := h
    have nd := scLaw.nd
    have h1 : Room 1 _ := hr.mono (by decide)
    have h2 : Room 2 _ := hr.mono (by decide)
    have h3 : Room 3 _ := hr.mono (by decide)
    have h4 : Room 4 _ := hr.mono (by decide)
    have h5 : Room 5 _ := hr.mono (by decide)
    have h16 : Room 16 _ := hr.mono (by decide)
    have hu := hu_of hr
    refine ⟨_, PSs.nox (pss_cons (ps_for PassesOwn.never rfl (pi_range1 rfl c.range (pa_cons (pe_callB (call_max2 rfl) (by rfl) c.max (by decide +kernel) (pa_cons pe_int (pa_cons (pe_callB (call_min2 rfl) (by rfl) c.min (by decide +kernel) (pa_cons pe_int (pa_cons (pe_callB call_len_seq (by rfl) c.len PySem.boot_len (pa_cons (pv 0) pa_nil)) pa_nil))) pa_nil))) pa_nil))
        (pg_name (i := 1) nd rfl (Or.inl rfl))
        (pss_cons (ps_set (i := 2) nd rfl (Or.inr rfl) (pe_cal c.src h1 (pa_cons (pv 0) (pa_cons (pv 1) pa_nil))))
        (pss_cons (ps_set (i := 3) nd rfl (Or.inl rfl) (pe_lst (pa_cons pe_str (pa_cons (pe_cal c.word h2 (pa_cons (pv 2) (pa_cons (pe_lst (pa_cons pe_str pa_nil)) pa_nil))) pa_nil))))
        (pss_cons (ps_setLc (i := 4) (own := [("k", 19)]) (g := gName 19) (tt := tYes) rfl nd rfl rfl (sw_true rfl rfl rfl (by decide +kernel)) (pi_range1 rfl c.range (pa_cons (pe_op op_add pe_int (pe_cal c.draw h1 (pa_cons (pv 2) (pa_cons pe_int pa_nil)))) pa_nil)) (blkOk_by (N := nLaw) (sc := defScope sLaw) (by decide +kernel))
            (fun _ _ _ _ _ => pg_name (i := 19) nd rfl (Or.inl rfl)) (fun _ _ _ _ _ => pts_nil) (fun _ _ _ _ _ => pe_cal c.num h2 (pa_cons (pv 2) pa_nil)))
        (pss_cons (ps_par (i := 5) (j := 6) (by rfl) nd rfl rfl (by decide) rfl rfl (pa_cons (pe_cal c.shape h4 (pa_cons (pv 2) (pa_cons (pv 3) (pa_cons (pv 4) (pa_cons pe_int pa_nil))))) (pa_cons (pe_cal c.shape h4 (pa_cons (pv 2) (pa_cons (pv 3) (pa_cons (pv 4) (pa_cons pe_int pa_nil))))) pa_nil)) (by rfl))
        (pss_cons (ps_par (i := 7) (j := 8) (by rfl) nd rfl rfl (by decide) rfl rfl (pa_cons (pe_cal c.filter h16 (pa_cons (pv 5) pa_nil)) (pa_cons (pe_cal c.filter h16 (pa_cons (pv 6) pa_nil)) pa_nil)) (by rfl))
        (pss_cons (ps_set (i := 9) nd rfl (Or.inl rfl) (pe_lst pa_nil))
        (pss_cons (ps_for PassesOwn.never rfl (pi_range1 rfl c.range (pa_cons pe_int pa_nil)) (pg_name (i := 10) nd rfl (Or.inl rfl))
          (pss_cons (ps_set (i := 11) nd rfl (Or.inl rfl) (pe_disp (pps_cons (pe_ix ix_list (pv 3) pe_int (fun _ _ => rfl)) (pe_ifExp (pt_cmpR op_eq (pe_cal c.draw h1 (pa_cons (pv 2) (pa_cons pe_int pa_nil))) pe_int (nomark _)) pe_non (pe_cal c.near h3 (pa_cons (pv 2) (pa_cons (pv 4) pa_nil)))) pps_nil) (by rfl) (by rfl) (fun z => by cases z) (by decide)))
          (pss_one (ps_expr (pe_bm PySem.F.plainAttrs_list PySem.F.slot_list_append PySem.F.type_list_append mt_append (pv 9) (pa_cons (pe_tup (pa_cons (pe_cal c.near h3 (pa_cons (pv 2) (pa_cons (pv 4) pa_nil))) (pa_cons (pv 11) pa_nil))) pa_nil))))))
        (pss_cons (ps_par (i := 12) (j := 13) (by rfl) nd rfl rfl (by decide) rfl rfl (pa_cons (pe_lst (pa_cons (pv 7) (pa_cons (pv 8) pa_nil))) (pa_cons (pe_lst (pa_cons (pv 5) (pa_cons (pv 6) pa_nil))) pa_nil)) (by rfl))
        (pss_cons (ps_for PassesOwn.never rfl (pi_list (pv 9)) (pg_tup (by rfl) (pgs_cons (pg_name (i := 14) nd rfl (Or.inl rfl)) (pgs_cons (pg_name (i := 11) nd rfl (Or.inl rfl)) pgs_nil)))
          (pss_one (ps_if (pt_not (pt_val (pe_cal c.told hr (pa_cons (pv 12) (pa_cons (pv 13) (pa_cons (pv 14) (pa_cons (pv 11) pa_nil))))))) (pss_one (ps_ret pe_bl)) pss_nil)))
        (pss_cons (ps_set (i := 12) nd rfl (Or.inl rfl) (pe_op op_cat (pv 12) (pe_lst (pa_cons (pe_op (Ob.op_binO WA FA bA h3) (pv 7) (pv 8)) (pa_cons (pe_op (Ob.op_binO WO FO bO h3) (pv 7) (pv 8)) (pa_cons (pe_op (Ob.op_binO WS FS bS h4) (pv 7) (pv 8)) (pa_cons (pe_op (Ob.op_binO WS FS bS h4) (pv 8) (pv 7)) (pa_cons (pe_op (Ob.op_binO WX FX bX h3) (pv 7) (pv 8)) (pa_cons (pe_un (Ob.op_invO ai ni FI bI h3) (pv 7)) (pa_cons (pe_op (Ob.op_binO WA FA bA h3) (pv 7) (pv 7)) (pa_cons (pe_un (Ob.op_invO ai ni FI bI h3) (pe_un (Ob.op_invO ai ni FI bI h3) (pv 8))) pa_nil)))))))))))
        (pss_cons (ps_set (i := 13) nd rfl (Or.inl rfl) (pe_op op_cat (pv 13) (pe_lst (pa_cons (pe_tup (pa_cons pe_str (pa_cons (pv 5) (pa_cons (pv 6) pa_nil)))) (pa_cons (pe_tup (pa_cons pe_str (pa_cons (pv 5) (pa_cons (pv 6) pa_nil)))) (pa_cons (pe_tup (pa_cons pe_str (pa_cons (pv 5) (pa_cons (pv 6) pa_nil)))) (pa_cons (pe_tup (pa_cons pe_str (pa_cons (pv 6) (pa_cons (pv 5) pa_nil)))) (pa_cons (pe_tup (pa_cons pe_str (pa_cons (pv 5) (pa_cons (pv 6) pa_nil)))) (pa_cons (pe_tup (pa_cons pe_str (pa_cons (pv 5) pa_nil))) (pa_cons (pe_tup (pa_cons pe_str (pa_cons (pv 5) (pa_cons (pv 5) pa_nil)))) (pa_cons (pv 6) pa_nil)))))))))))
        (pss_cons (ps_for PassesOwn.never rfl (pi_list (pv 9)) (pg_tup (by rfl) (pgs_cons (pg_name (i := 14) nd rfl (Or.inl rfl)) (pgs_cons (pg_name (i := 11) nd rfl (Or.inl rfl)) pgs_nil)))
          (pss_one (ps_if (pt_not (pt_val (pe_cal c.told hr (pa_cons (pv 12) (pa_cons (pv 13) (pa_cons (pv 14) (pa_cons (pv 11) pa_nil))))))) (pss_one (ps_ret pe_bl)) pss_nil)))
        (pss_cons (ps_par (i := 15) (j := 16) (by rfl) nd rfl rfl (by decide) rfl rfl (pa_cons (pe_cal c.draw h1 (pa_cons (pv 2) (pa_cons pe_int pa_nil))) (pa_cons (pv 7) pa_nil)) (by rfl))
        (pss_cons (ps_if (pt_cmpR op_eq (pv 15) pe_int (nomark _)) (pss_one (ps_aug (i := 7) nd rfl (Or.inl rfl) (pv 8) (Ob.op_inpO WA c.nA FA bA h3))) (pss_one (ps_if (pt_cmpR op_eq (pv 15) pe_int (nomark _)) (pss_one (ps_aug (i := 7) nd rfl (Or.inl rfl) (pv 8) (Ob.op_inpO WO c.nO FO bO h3))) (pss_one (ps_if (pt_cmpR op_eq (pv 15) pe_int (nomark _)) (pss_one (ps_aug (i := 7) nd rfl (Or.inl rfl) (pv 8) (Ob.op_inpO WS c.nS FS bS h4))) (pss_one (ps_aug (i := 7) nd rfl (Or.inl rfl) (pv 8) (Ob.op_inpO WX c.nX FX bX h3))))))))
        (pss_cons (ps_expr (pe_bm PySem.F.plainAttrs_list PySem.F.slot_list_append PySem.F.type_list_append mt_append (pv 12) (pa_cons (pv 7) pa_nil)))
        (pss_cons (ps_expr (pe_bm PySem.F.plainAttrs_list PySem.F.slot_list_append PySem.F.type_list_append mt_append (pv 13) (pa_cons (pe_tup (pa_cons (pe_ix ix_list (pe_lst (pa_cons pe_str (pa_cons pe_str (pa_cons pe_str (pa_cons pe_str pa_nil))))) (pv 15) (fun _ _ => rfl)) (pa_cons (pv 5) (pa_cons (pv 6) pa_nil)))) pa_nil)))
        (pss_cons (ps_for PassesOwn.never rfl (pi_list (pv 9)) (pg_tup (by rfl) (pgs_cons (pg_name (i := 14) nd rfl (Or.inl rfl)) (pgs_cons (pg_name (i := 11) nd rfl (Or.inl rfl)) pgs_nil)))
          (pss_cons (ps_if (PW.pt (pw_or (pt_not (pt_val (pe_cal c.told hr (pa_cons (pv 12) (pa_cons (pv 13) (pa_cons (pv 14) (pa_cons (pv 11) pa_nil))))))) (pw_or1 (pt_not (pt_val (pe_cal c.told hr (pa_cons (pe_lst (pa_cons (pv 16) pa_nil)) (pa_cons (pe_lst (pa_cons (pv 5) pa_nil)) (pa_cons (pv 14) (pa_cons (pv 11) pa_nil)))))))))) (pss_one (ps_ret pe_bl)) pss_nil)
          (pss_cons (ps_set (i := 17) nd rfl (Or.inl rfl) (pe_callTy call_dictD (by rfl) c.dict (by decide +kernel) (pa_cons (pv 11) pa_nil)))
          (pss_cons (ps_set (i := 18) nd rfl (Or.inl rfl) (pe_meth (pv 7) T.cl m1 F1 h5 b1 .nil pass0 (pa_cons (pv 14) (pa_cons (pv 17) pa_nil))))
          (pss_cons (ps_dput hu (pv 17) (pe_ix ix_list (pv 3) pe_int (fun _ _ => rfl)) (pe_cal c.of h2 (pa_cons (pv 2) (pa_cons (pv 4) pa_nil))) rfl)
          (pss_one (ps_if (pt_not (pt_val (pe_cal c.same h1 (pa_cons (pe_meth (pv 7) T.cl m1 F1 h5 b1 .nil pass0 (pa_cons (pv 14) (pa_cons (pv 11) pa_nil))) (pa_cons (pv 18) pa_nil))))) (pss_one (ps_ret pe_bl)) pss_nil)))))))
        (pss_one (ps_if (pt_cmpR (op_neD hr.units) (pe_meth0 (pv 7) T.cl mm FM h1 bM .nil pass0) (pe_meth0 (pe_ix ix_list (pv 12) (pe_op op_add pe_int (pe_ix ix_list (pe_lst (pa_cons pe_int (pa_cons pe_int (pa_cons pe_int (pa_cons pe_int pa_nil))))) (pv 15) (fun _ _ => rfl))) (fun _ _ => rfl)) T.cl mm FM h1 bM .nil pass0) (nomark _)) (pss_one (ps_ret pe_bl)) pss_nil))))))))))))))))))))
      (pss_one (ps_ret pe_bl))), ?_⟩
    have hb : ∀ L : Int, 0 ≤ L → 1 ≤ (if (if L < 30 then L else 30) > 1 then (if L < 30 then L else 30) else 1) ∧ (if (if L < 30 then L else 30) > 1 then (if L < 30 then L else 30) else 1) ≤ 30 := fun L h => by split <;> split <;> omega
    have hb2 := hb (((ns.map V.int).length : Nat) : Int) (by omega)
    refine ⟨_, rfl, a, _, rfl, .inl hS, _, _, rfl, _, _, rfl, _, rfl, by omega, by omega, ?_⟩
    refine for_range (lo := 0) (fun j σ H' => ∃ v1 v2 v3 v4 v5 v6 v7 v8 v9 v10 v11 v12 v13 v14 v15 v16 v17 v18 v19 : Option V, σ = [some (.ref a), v1, v2, v3, v4, v5, v6, v7, v8, v9, v10, v11, v12, v13, v14, v15, v16, v17, v18, v19] ∧ Same H H') ⟨_, _, _, _, _, _, _, _, _, _, _, _, _, _, _, _, _, _, _, rfl, Same.refl H⟩ ?_ ?_
    · rintro j σ H' hj ⟨v1, v2, v3, v4, v5, v6, v7, v8, v9, v10, v11, v12, v13, v14, v15, v16, v17, v18, v19, rfl, sH⟩
      have hj2 : (j : Int) < 30 := by omega
      refine g_name ?_
      refine sq_set (fun x H1 => ∃ p, x = .ref p ∧ Bas H p H1 ∧ Src H1 p 0) (fun Q q => ?_) ?_
      · refine ⟨_, rfl, _, rfl, a, ns, _, rfl, sH.seq hS, by omega, by omega, by omega, fun p H1 np s1 hs => q _ _ ⟨p, rfl, fun b o e => ⟨ne_of_none (sH b o e) np, s1 b o (sH b o e)⟩, hs⟩⟩
      rintro _ H1 ⟨p, rfl, B1, S1⟩
      refine sq_set (fun x G => ∃ (l : Addr) (wd : Str), x = .ref l ∧ l ≠ p ∧ G l = some (.lst [.str "key", .str wd]) ∧ IsWord wd ∧ Bas H p G ∧ Src G p 10) (fun Q q => ?_) ?_
      · refine ⟨_, rfl, (by show 1 ≤ sizeLine; decide), fun k1 nk => ⟨p, k1, _, ["key"], rfl, S1.new nk, by omega, S1.ne nk, SqL.of upd_same, by decide, fun G2 wd k2 s2 hw hn => ⟨(by show 2 ≤ sizeLine; decide), fun l nl => q _ _ ⟨l, wd, rfl, s2.ne nl, upd_same, hw, (B1.keep (((Keep.refl _).new nk).trans k2)).keep ((Keep.refl _).new nl), s2.new nl⟩⟩⟩⟩
      rintro _ G3 ⟨l, wd, rfl, lp, gl3, hw, BG3, SG3⟩
      refine sq_set (fun x G => ∃ (pl : Addr) (ms : List Int), x = .ref pl ∧ pl ≠ p ∧ G pl = some (.lst (ms.map V.int)) ∧ ms ≠ [] ∧ ms.length ≤ 3 ∧ G l = some (.lst [.str "key", .str wd]) ∧ Bas H p G ∧ Src G p 60) (fun Q q => ?_) ?_
      · refine ⟨_, rfl, p, _, _, rfl, SG3, by omega, by decide, by decide, fun G4 c2 k4 s4 d0 d1 => ⟨_, _, rfl, rfl, _, rfl, by omega, by omega, fun D nD => ?_⟩⟩
        have Dp : D ≠ p := s4.ne nD
        have HD : H D = none := (BG3.keep k4).new nD
        have lD : l ≠ D := ne_of_none (k4 _ _ lp gl3) nD
        refine lc_range (lo := 0) (fun i G => ∃ ms : List Int, G D = some (.lst (ms.map V.int)) ∧ ms.length = i ∧ G l = some (.lst [.str "key", .str wd]) ∧ Bas H p G ∧ Src G p (11 + 8 * i)) ⟨[], upd_same, rfl, by rw [upd_ne lD]; exact k4 _ _ lp gl3, (BG3.keep k4).keep ((Keep.refl G4).new nD), s4.new nD⟩ ?_ ?_
        · rintro i G hi ⟨ms, gD, ml, gl, BG, SG⟩
          have i3 : i < 3 := by omega
          refine ⟨rfl, _, rfl, p, _, rfl, SG, by omega, fun G5 x k5 s5 => ⟨_, k5 _ _ Dp gD, (by rw [List.length_map, ml]; exact Nat.lt_trans i3 (by decide)), ms ++ [x], by rw [upd_same, List.map_append]; rfl, by rw [List.length_append, ml]; rfl, by rw [upd_ne lD]; exact k5 _ _ lp gl, (BG.keep k5).set HD, ?_⟩⟩
          obtain ⟨x1, x2, x3, y1, y2⟩ := s5.mono (show 11 + 8 * i + 8 ≤ 11 + 8 * (i + 1) by omega)
          exact ⟨x1, x2, x3, by rw [upd_ne Dp.symm]; exact y1, y2⟩
        · rintro G ⟨ms, gD, ml, gl, BG, SG⟩
          exact q _ _ ⟨D, ms, rfl, Dp, gD, (fun e => by rw [e] at ml; simp at ml; omega), by omega, gl, BG, SG.mono (by omega)⟩
      rintro _ G4 ⟨pl, ms, rfl, pp, gp4, m0, m3, gl4, BG4, SG4⟩
      have zw : ∀ z ∈ (["key", wd] : List Str), IsWord z := fun z hz => by
        rcases List.mem_cons.mp hz with rfl | hz
        · exact ⟨by decide, by decide, by decide⟩
        · rw [List.mem_singleton.mp hz]; exact hw
      have pots : ∀ {G : Hp}, G l = some (.lst [.str "key", .str wd]) → G pl = some (.lst (ms.map V.int)) → Pots K G p l pl ["key", wd] ms := fun gl gp => ⟨lp, pp, SqL.of gl, SqL.of gp, (fun e => by cases e), m0, zw, (by show 2 ≤ 100; decide), by omega⟩
      refine sq_par (fun x y G => ∃ s t : Shp, ShV G s x ∧ ShV G t y ∧ (s.ok ∧ s.good ∧ s.depth ≤ 11 ∧ s.size ≤ 22) ∧ (t.ok ∧ t.good ∧ t.depth ≤ 11 ∧ t.size ≤ 22) ∧ Keep p G4 G ∧ Src G p 160) (fun Q q => ?_) ?_
      · refine ⟨_, rfl, _, rfl, _, rfl, p, l, pl, _, 4, _, ms, rfl, SG4, by omega, by decide, by decide, pots gl4 gp4, fun G5 x s k5 s5 hs ok gd dp sz => ?_⟩
        refine ⟨_, rfl, _, rfl, _, rfl, p, l, pl, _, 4, _, ms, rfl, s5, by omega, by decide, by decide, pots (k5 _ _ lp gl4) (k5 _ _ pp gp4), fun G6 y t k6 s6 ht ok2 gd2 dp2 sz2 => ?_⟩
        exact q _ _ _ ⟨s, t, hs.sol (Sol.keep s5 k6), ht, ⟨ok, gd, dp, sz⟩, ⟨ok2, gd2, dp2, sz2⟩, k5.trans k6, s6⟩
      rintro v1' v2' G5 ⟨s, t, hs5, ht5, ⟨ok, gd, dp, sz⟩, ⟨ok2, gd2, dp2, sz2⟩, k5, S5⟩
      have ls := Shp.len s
      have lt := Shp.len t
      refine sq_par (fun x y G => ∃ fa' ga', x = .ref fa' ∧ y = .ref ga' ∧ W14 CF H p l pl wd ms s t fa' ga' v1' v2' 160 G) (fun Q q => ?_) ?_
      · refine ⟨_, rfl, v1', s, rfl, hs5, ok, gd, dp, by omega, fun fa' G6 _ s6 hf => ⟨_, rfl, v2', t, rfl, ht5.same s6, ok2, gd2, dp2, by omega, fun ga' G7 _ s7 hg => ?_⟩⟩
        have s57 := s6.trans s7
        exact q _ _ _ ⟨fa', ga', rfl, rfl, (BG4.keep k5).keep (Keep.of_same s57), S5.same s57, s57 _ _ (k5 _ _ lp gl4), s57 _ _ (k5 _ _ pp gp4), hf.same s7, hg, hs5.same s57, ht5.same s57⟩
      rintro _ _ G7 ⟨fa', ga', rfl, rfl, W7⟩
      refine sq_set (fun x G => ∃ en, x = .ref en ∧ en ≠ p ∧ l ≠ en ∧ pl ≠ en ∧ H en = none ∧ G en = some (.lst []) ∧ W14 CF H p l pl wd ms s t fa' ga' v1' v2' 160 G) (fun Q q => ⟨(by show 0 ≤ sizeLine; decide), fun en nen => q _ _ ⟨en, rfl, W7.src.ne nen, ne_of_none W7.gl nen, ne_of_none W7.gp nen, W7.bas.new nen, upd_same, W7.same (Lw.Same.new (Same.refl G7) nen)⟩⟩) ?_
      rintro _ G8 ⟨en, rfl, enp, len, plen, Hen, ge8, W8⟩
      refine ⟨_, rfl, by decide, by decide, ?_⟩
      refine for_range (lo := 0) (fun j σ G => ∃ (v1 v10 v11 v12 v13 v14 v15 v16 v17 v18 v19 : Option V) (es : List V), σ = [some (.ref a), v1, some (.ref p), some (.ref l), some (.ref pl), some v1', some v2', some (.ref fa'), some (.ref ga'), some (.ref en), v10, v11, v12, v13, v14, v15, v16, v17, v18, v19] ∧ W14 CF H p l pl wd ms s t fa' ga' v1' v2' (160 + 30 * j) G ∧ G en = some (.lst es) ∧ es.length = j ∧ ∀ e ∈ es, Ent wd G e)
        ⟨_, _, _, _, _, _, _, _, _, _, _, [], rfl, W8, ge8, rfl, fun _ h => nomatch h⟩ ?_ ?_
      · rintro j σ G hj ⟨v1, v10, v11, v12, v13, v14, v15, v16, v17, v18, v19, es, rfl, WG, ge, el, ent⟩
        have j3 : j < 3 := hj
        generalize hN : 160 + 30 * j = N at WG
        have hN2 : N ≤ 1000 := by omega
        refine g_name ?_
        refine sq_set (fun x G2 => ∃ (d : Addr) (v : V), x = .ref d ∧ G2 d = some (.dK [(.inr wd, v)]) ∧ ((∃ i : Int, v = .int i) ∨ v = .non) ∧ Keep p G G2 ∧ Src G2 p (N + 11)) (fun Q q => ?_) ?_
        · refine fun d nd' => ⟨_, rfl, l, _, _, .str wd, rfl, rfl, SqL.of (by rw [upd_ne (ne_of_none WG.gl nd')]; exact WG.gl), rfl, ?_⟩
          have k0 := (Keep.refl (a := p) G).new (o := .dK []) nd'
          have S0 := WG.src.new (o := .dK []) nd'
          have dp' : d ≠ p := WG.src.ne nd'
          have fin : ∀ (G5 : Hp) (v : V), Keep p (upd G d (.dK [])) G5 → Src G5 p (N + 11) → ((∃ i : Int, v = .int i) ∨ v = .non) → Q (.ref d) (upd G5 d (.dK [(.inr wd, v)])) := fun G5 v k5 s5 hv => by
            refine q _ _ ⟨d, v, rfl, upd_same, hv, fun b o nb h => ?_, ?_⟩
            · rw [upd_ne (ne_of_none h nd')]
              exact k5 b o nb (k0 b o nb h)
            · obtain ⟨x1, x2, x3, y1, y2⟩ := s5
              exact ⟨x1, x2, x3, by rw [upd_ne dp'.symm]; exact y1, y2⟩
          refine ⟨_, rfl, p, _, _, rfl, S0, by omega, by decide, by decide, fun G4 i4 k4 s4 _ _ => ⟨rfl, _, rfl, bool_ite (fun _ => ?_) (fun _ => ?_)⟩⟩
          · exact ⟨k4 _ _ dp' upd_same, [(.inr wd, .non)], rfl, (by show 1 ≤ 15; decide), fin G4 .non k4 (s4.mono (by omega)) (.inr rfl)⟩
          · refine ⟨_, rfl, _, rfl, p, pl, _, ms, rfl, s4, by omega, pp, SqL.of (k4 _ _ pp (k0 _ _ pp WG.gp)), by omega, fun G5 i5 k6 s5 => ?_⟩
            exact ⟨k6 _ _ dp' (k4 _ _ dp' upd_same), [(.inr wd, .int i5)], rfl, (by show 1 ≤ 15; decide), fin G5 (.int i5) (k4.trans k6) (s5.mono (by omega)) (.inl ⟨i5, rfl⟩)⟩
        rintro _ G2 ⟨d, v, rfl, gd2, hv, k2, s2⟩
        have ge2 := k2 _ _ enp ge
        refine ⟨_, rfl, .inl ⟨rfl, _, SqL.of ge2⟩, ?_⟩
        refine ⟨_, rfl, _, rfl, p, pl, _, ms, rfl, s2, by omega, pp, SqL.of (k2 _ _ pp WG.gp), by omega, fun G3 key k3 s3 => ⟨_, rfl, (by show 2 ≤ sizeLine; decide), fun t1 nt => ?_⟩⟩
        have dp' : d ≠ p := fun e => by
          subst e
          obtain ⟨_, _, _, y1, _⟩ := s2
          rw [gd2] at y1
          cases y1
        have st := Lw.Same.new (o := .tup [.int key, .ref d]) (Same.refl G3) nt
        have k23 := (k2.trans k3).trans (Keep.of_same st)
        have W3 := WG.keep (m := N + 30) lp pp k23 ((s3.same st).mono (by omega))
        have ge3 := k23 _ _ enp ge
        have so := (Sol.keep WG.src k23).trans (Sol.set (o := .lst (es ++ [.ref t1])) ge3)
        refine ⟨en, es, _, rfl, rfl, ge3, (by rw [el]; exact Nat.lt_trans j3 (by decide)), ?_⟩
        refine ⟨v1, _, _, v12, v13, v14, v15, v16, v17, v18, v19, es ++ [.ref t1], rfl, ?_, upd_same, by rw [List.length_append, el]; rfl, fun e he => ?_⟩
        · have := W3.set (o := .lst (es ++ [.ref t1])) ge3 Hen enp len plen
          rw [show 160 + 30 * (j + 1) = N + 30 by omega]
          exact this
        · rcases List.mem_append.mp he with he | he
          · exact (ent e he).sol so
          · rw [List.mem_singleton.mp he]
            exact ⟨t1, d, key, v, rfl, (Sol.set ge3).tup upd_same, (Sol.set ge3).dic (st _ _ (k3 _ _ dp' gd2)), hv⟩
      rintro σ G9 ⟨v1, v10, v11, v12, v13, v14, v15, v16, v17, v18, v19, es, rfl, W9, ge9, el, ent⟩
      dsimp only [tNext]
      have W9 : W14 CF H p l pl wd ms s t fa' ga' v1' v2' 250 G9 := W9
      refine sq_par (fun x y G => ∃ fl sl, x = .ref fl ∧ y = .ref sl ∧ G fl = some (.lst [.ref fa', .ref ga']) ∧ G sl = some (.lst [v1', v2']) ∧ Same G9 G) (fun Q q => ?_) ?_
      · refine ⟨_, rfl, _, rfl, (by show 2 ≤ sizeLine; decide), fun fl nfl => ⟨_, rfl, _, rfl, (by show 2 ≤ sizeLine; decide), fun sl nsl => ?_⟩⟩
        have sa := Lw.Same.new (o := .lst [.ref fa', .ref ga']) (Same.refl G9) nfl
        have sb := Lw.Same.new (o := .lst [v1', v2']) (Same.refl _) nsl
        exact q _ _ _ ⟨fl, sl, rfl, rfl, sb _ _ upd_same, upd_same, sa.trans sb⟩
      rintro _ _ G10 ⟨fl, sl, rfl, rfl, gfl, gsl, s10⟩
      have W10 := W9.same s10
      have ge10 := s10 _ _ ge9
      have P10 : Paired (Goes CF G10) [.ref fa', .ref ga'] [v1', v2'] := .cons (goes_of rfl W10.fa (by omega) W10.sh1 ok (by omega)) (.cons (goes_of rfl W10.ga (by omega) W10.sh2 ok2 (by omega)) .nil)
      refine ⟨_, rfl, en, rfl, ⟨_, SqL.of ge10⟩, ?_⟩
      refine for_list (xs := es) (fun i σ G => ∃ v1 v10 v11 v14 v15 v16 v17 v18 v19 : Option V, σ = [some (.ref a), v1, some (.ref p), some (.ref l), some (.ref pl), some v1', some v2', some (.ref fa'), some (.ref ga'), some (.ref en), v10, v11, some (.ref fl), some (.ref sl), v14, v15, v16, v17, v18, v19] ∧ Same G10 G) ⟨_, _, _, _, _, _, _, _, _, rfl, Same.refl _⟩ (fun i σ G _ ⟨_, _, _, _, _, _, _, _, _, _, h⟩ => SqL.of (h _ _ ge10)) ?_ ?_
      · rintro i x σ G hx ⟨v1, v10, v11, v14, v15, v16, v17, v18, v19, rfl, sG⟩
        obtain ⟨t1, d, key, v, rfl, ht1, hd, hv⟩ := ent x (List.mem_of_getElem? hx)
        have s9 := s10.trans sG
        refine ⟨t1, _, rfl, SqT.of (s9 _ _ ht1), rfl, _, _, rfl, _, _, rfl, rfl, ?_⟩
        refine s1_if (fun b G3 => b = false ∧ Same G10 G3) (fun Q q => ?_) (fun _ h => by cases h.1) (fun G3 h => ⟨_, _, _, _, _, _, _, _, _, rfl, h.2⟩)
        exact ⟨_, rfl, _, rfl, _, rfl, _, rfl, fl, sl, _, _, key, d, _, rfl, SqL.of (sG _ _ gfl), SqL.of (sG _ _ gsl), paired_map (fun _ _ g => g.sol (Sol.same sG)) P10, envR_ok (s9 _ _ hd) (row1 hv), fun G3 s3 => ⟨_, rfl, q _ _ ⟨rfl, sG.trans s3⟩⟩⟩
      rintro σ G11 ⟨v1, v10, v11, v14, v15, v16, v17, v18, v19, rfl, s11⟩
      dsimp only [tNext]
      have W11 := W10.same s11
      have ge11 := s11 _ _ ge10
      have gfl11 := s11 _ _ gfl
      have gsl11 := s11 _ _ gsl
      have ent11 : ∀ e ∈ es, Ent wd G11 e := fun e he => (ent e he).sol ((Sol.same s10).trans (Sol.same s11))
      refine sq_set (fun x G => ∃ fl2 q1 q2 q3 q4 q5 q6 q7 q8 : Addr, x = .ref fl2 ∧ G11 fl2 = none ∧ Same G11 G ∧ G fl2 = some (.lst [.ref fa', .ref ga', .ref q1, .ref q2, .ref q3, .ref q4, .ref q5, .ref q6, .ref q7, .ref q8]) ∧ Fi CF G q1 (Shp.bin "and" s t).tms ∧ Fi CF G q2 (Shp.bin "or" s t).tms ∧ Fi CF G q3 (Shp.bin "minus" s t).tms ∧ Fi CF G q4 (Shp.bin "minus" t s).tms ∧ Fi CF G q5 (Shp.bin "differ" s t).tms ∧ Fi CF G q6 (Shp.not s).tms ∧ Fi CF G q7 (Shp.bin "and" s s).tms ∧ Fi CF G q8 (t.tms ++ [.not] ++ [.not])) (fun Q q => ?_) ?_
      · rw [tms_and, tms_or, tms_minus, tms_minus, tms_differ, tms_and] at q
        refine ⟨_, rfl, _, rfl, _, rfl, bin_rd W11.fa W11.ga (by omega) fun q1 A1 _ a1 f1 => ?_⟩
        refine ⟨_, rfl, _, rfl, bin_rd (W11.fa.same a1) (W11.ga.same a1) (by omega) fun q2 A2 _ a2 f2 => ?_⟩
        have b2 := a1.trans a2
        refine ⟨_, rfl, _, rfl, sub_read (W11.fa.same b2) (W11.ga.same b2) (by omega) fun q3 A3 _ a3 f3 => ?_⟩
        have b3 := b2.trans a3
        refine ⟨_, rfl, _, rfl, sub_read (W11.ga.same b3) (W11.fa.same b3) (by omega) fun q4 A4 _ a4 f4 => ?_⟩
        have b4 := b3.trans a4
        refine ⟨_, rfl, _, rfl, bin_rd (W11.fa.same b4) (W11.ga.same b4) (by omega) fun q5 A5 _ a5 f5 => ?_⟩
        have b5 := b4.trans a5
        refine ⟨_, rfl, inv_read (W11.fa.same b5) (by omega) fun q6 A6 _ a6 f6 => ?_⟩
        have b6 := b5.trans a6
        refine ⟨_, rfl, _, rfl, bin_rd (W11.fa.same b6) (W11.fa.same b6) (by omega) fun q7 A7 _ a7 f7 => ?_⟩
        have b7 := b6.trans a7
        refine ⟨_, rfl, inv_read (W11.ga.same b7) (by omega) fun q9 A8 _ a8 f9 => inv_read f9 (by rw [List.length_append, List.length_singleton]; omega) fun q8 A9 _ a9 f8 => ?_⟩
        have b9 := (b7.trans a8).trans a9
        refine ⟨(by show 8 ≤ sizeLine; decide), fun L nL => ?_⟩
        have sL := Lw.Same.new (o := .lst [.ref q1, .ref q2, .ref q3, .ref q4, .ref q5, .ref q6, .ref q7, .ref q8]) (Same.refl A9) nL
        refine ⟨_, _, _, _, rfl, rfl, sL _ _ (b9 _ _ gfl11), upd_same, (by show 10 ≤ sizeLine; decide), fun fl2 nfl2 => ?_⟩
        have s2 := Lw.Same.new (o := .lst ([.ref fa', .ref ga'] ++ [.ref q1, .ref q2, .ref q3, .ref q4, .ref q5, .ref q6, .ref q7, .ref q8])) (Same.refl _) nfl2
        have z9 := sL.trans s2
        have z8 := a9.trans z9
        have z7 := a8.trans z8
        have z6 := a7.trans z7
        have z5 := a6.trans z6
        have z4 := a5.trans z5
        have z3 := a4.trans z4
        have z2 := a3.trans z3
        exact q _ _ ⟨fl2, q1, q2, q3, q4, q5, q6, q7, q8, rfl, none_of_same (b9.trans sL) nfl2, b9.trans z9, upd_same, f1.same (a2.trans z2), f2.same z2, f3.same z3, f4.same z4, f5.same z5, f6.same z6, f7.same z7, f8.same z9⟩
      rintro _ G12 ⟨fl2, q1, q2, q3, q4, q5, q6, q7, q8, rfl, nfl2, s12, gfl2, f1, f2, f3, f4, f5, f6, f7, f8⟩
      have W12 := W11.same s12
      have ge12 := s12 _ _ ge11
      refine sq_set (fun x G => ∃ sl2 e1 e2 e3 e4 e5 e6 e7 : Addr, x = .ref sl2 ∧ G12 sl2 = none ∧ Same G12 G ∧ G sl2 = some (.lst [v1', v2', .ref e1, .ref e2, .ref e3, .ref e4, .ref e5, .ref e6, .ref e7, v2']) ∧ G e1 = some (.tup [.str "and", v1', v2']) ∧ G e2 = some (.tup [.str "or", v1', v2']) ∧ G e3 = some (.tup [.str "minus", v1', v2']) ∧ G e4 = some (.tup [.str "minus", v2', v1']) ∧ G e5 = some (.tup [.str "differ", v1', v2']) ∧ G e6 = some (.tup [.str "not", v1']) ∧ G e7 = some (.tup [.str "and", v1', v1'])) (fun Q q => ?_) ?_
      · refine ⟨_, rfl, _, rfl, _, rfl, (by show 3 ≤ sizeLine; decide), fun e1 n1 => ?_⟩
        have c1 := Lw.Same.new (o := .tup [.str "and", v1', v2']) (Same.refl G12) n1
        have t1 := upd_same (H := G12) (a := e1) (o := .tup [.str "and", v1', v2'])
        generalize upd G12 e1 (.tup [.str "and", v1', v2']) = B1 at c1 t1 ⊢
        refine ⟨_, rfl, _, rfl, (by show 3 ≤ sizeLine; decide), fun e2 n2 => ?_⟩
        have c2 := Lw.Same.new (o := .tup [.str "or", v1', v2']) (Same.refl B1) n2
        have t2 := upd_same (H := B1) (a := e2) (o := .tup [.str "or", v1', v2'])
        generalize upd B1 e2 (.tup [.str "or", v1', v2']) = B2 at c2 t2 ⊢
        refine ⟨_, rfl, _, rfl, (by show 3 ≤ sizeLine; decide), fun e3 n3 => ?_⟩
        have c3 := Lw.Same.new (o := .tup [.str "minus", v1', v2']) (Same.refl B2) n3
        have t3 := upd_same (H := B2) (a := e3) (o := .tup [.str "minus", v1', v2'])
        generalize upd B2 e3 (.tup [.str "minus", v1', v2']) = B3 at c3 t3 ⊢
        refine ⟨_, rfl, _, rfl, (by show 3 ≤ sizeLine; decide), fun e4 n4 => ?_⟩
        have c4 := Lw.Same.new (o := .tup [.str "minus", v2', v1']) (Same.refl B3) n4
        have t4 := upd_same (H := B3) (a := e4) (o := .tup [.str "minus", v2', v1'])
        generalize upd B3 e4 (.tup [.str "minus", v2', v1']) = B4 at c4 t4 ⊢
        refine ⟨_, rfl, _, rfl, (by show 3 ≤ sizeLine; decide), fun e5 n5 => ?_⟩
        have c5 := Lw.Same.new (o := .tup [.str "differ", v1', v2']) (Same.refl B4) n5
        have t5 := upd_same (H := B4) (a := e5) (o := .tup [.str "differ", v1', v2'])
        generalize upd B4 e5 (.tup [.str "differ", v1', v2']) = B5 at c5 t5 ⊢
        refine ⟨_, rfl, (by show 2 ≤ sizeLine; decide), fun e6 n6 => ?_⟩
        have c6 := Lw.Same.new (o := .tup [.str "not", v1']) (Same.refl B5) n6
        have t6 := upd_same (H := B5) (a := e6) (o := .tup [.str "not", v1'])
        generalize upd B5 e6 (.tup [.str "not", v1']) = B6 at c6 t6 ⊢
        refine ⟨_, rfl, _, rfl, (by show 3 ≤ sizeLine; decide), fun e7 n7 => ?_⟩
        have c7 := Lw.Same.new (o := .tup [.str "and", v1', v1']) (Same.refl B6) n7
        have t7 := upd_same (H := B6) (a := e7) (o := .tup [.str "and", v1', v1'])
        generalize upd B6 e7 (.tup [.str "and", v1', v1']) = B7 at c7 t7 ⊢
        have d2 := c1.trans c2
        have d3 := d2.trans c3
        have d4 := d3.trans c4
        have d5 := d4.trans c5
        have d6 := d5.trans c6
        have d7 := d6.trans c7
        refine ⟨_, rfl, (by show 8 ≤ sizeLine; decide), fun L nL => ?_⟩
        have sL := Lw.Same.new (o := .lst [.ref e1, .ref e2, .ref e3, .ref e4, .ref e5, .ref e6, .ref e7, v2']) (Same.refl B7) nL
        refine ⟨_, _, _, _, rfl, rfl, sL _ _ (d7 _ _ (s12 _ _ gsl11)), upd_same, (by show 10 ≤ sizeLine; decide), fun sl2 nsl2 => ?_⟩
        have s2 := Lw.Same.new (o := .lst ([v1', v2'] ++ [.ref e1, .ref e2, .ref e3, .ref e4, .ref e5, .ref e6, .ref e7, v2'])) (Same.refl _) nsl2
        have z7 := sL.trans s2
        have z6 := c7.trans z7
        have z5 := c6.trans z6
        have z4 := c5.trans z5
        have z3 := c4.trans z4
        have z2 := c3.trans z3
        exact q _ _ ⟨sl2, e1, e2, e3, e4, e5, e6, e7, rfl, none_of_same (d7.trans sL) nsl2, d7.trans z7, upd_same, (c2.trans z2) _ _ t1, z2 _ _ t2, z3 _ _ t3, z4 _ _ t4, z5 _ _ t5, z6 _ _ t6, z7 _ _ t7⟩
      rintro _ G13 ⟨sl2, e1, e2, e3, e4, e5, e6, e7, rfl, nsl2, s13, gsl2, t1, t2, t3, t4, t5, t6, t7⟩
      have W13 := W12.same s13
      have ge13 := s13 _ _ ge12
      have gfl13 := s13 _ _ gfl2
      have pb : ∀ (wk : Str) (S T : Shp), S.size ≤ 22 → T.size ≤ 22 → (Shp.bin wk S T).size < 60 := fun wk S T h1 h2 => by
        show S.size + T.size + 2 < 60
        omega
      have dpb : ∀ (wk : Str) (S T : Shp), S.depth ≤ 11 → T.depth ≤ 11 → (Shp.bin wk S T).depth ≤ 13 := fun wk S T h1 h2 => by
        show max S.depth T.depth + 1 ≤ 13
        omega
      have P13 : Paired (Goes CF G13) [.ref fa', .ref ga', .ref q1, .ref q2, .ref q3, .ref q4, .ref q5, .ref q6, .ref q7, .ref q8] [v1', v2', .ref e1, .ref e2, .ref e3, .ref e4, .ref e5, .ref e6, .ref e7, v2'] :=
        .cons (goes_of rfl W13.fa (by omega) W13.sh1 ok (by omega)) (.cons (goes_of rfl W13.ga (by omega) W13.sh2 ok2 (by omega))
        (.cons (goes_of rfl (f1.same s13) (pb _ _ _ sz sz2) ⟨e1, v1', v2', rfl, t1, W13.sh1, W13.sh2⟩ ⟨by decide, ok, ok2⟩ (dpb _ _ _ dp dp2))
        (.cons (goes_of rfl (f2.same s13) (pb _ _ _ sz sz2) ⟨e2, v1', v2', rfl, t2, W13.sh1, W13.sh2⟩ ⟨by decide, ok, ok2⟩ (dpb _ _ _ dp dp2))
        (.cons (goes_of rfl (f3.same s13) (pb _ _ _ sz sz2) ⟨e3, v1', v2', rfl, t3, W13.sh1, W13.sh2⟩ ⟨by decide, ok, ok2⟩ (dpb _ _ _ dp dp2))
        (.cons (goes_of rfl (f4.same s13) (pb _ _ _ sz2 sz) ⟨e4, v2', v1', rfl, t4, W13.sh2, W13.sh1⟩ ⟨by decide, ok2, ok⟩ (dpb _ _ _ dp2 dp))
        (.cons (goes_of rfl (f5.same s13) (pb _ _ _ sz sz2) ⟨e5, v1', v2', rfl, t5, W13.sh1, W13.sh2⟩ ⟨by decide, ok, ok2⟩ (dpb _ _ _ dp dp2))
        (.cons (goes_of (S := .not s) rfl (f6.same s13) (Nat.lt_of_le_of_lt (Nat.succ_le_succ sz) (by decide)) ⟨e6, v1', rfl, t6, W13.sh1⟩ ok (Nat.le_trans (Nat.succ_le_succ dp) (by decide)))
        (.cons (goes_of rfl (f7.same s13) (pb _ _ _ sz sz) ⟨e7, v1', v1', rfl, t7, W13.sh1, W13.sh1⟩ ⟨by decide, ok, ok⟩ (dpb _ _ _ dp dp))
        (.cons (goes_nn (f8.same s13) (by omega) W13.sh2 ok2 (by omega)) .nil)))))))))
      have sE13 := (Sol.same s12).trans (Sol.same s13)
      refine ⟨_, rfl, en, rfl, ⟨_, SqL.of ge13⟩, ?_⟩
      refine for_list (xs := es) (fun i σ G => ∃ v1 v10 v11 v14 v15 v16 v17 v18 v19 : Option V, σ = [some (.ref a), v1, some (.ref p), some (.ref l), some (.ref pl), some v1', some v2', some (.ref fa'), some (.ref ga'), some (.ref en), v10, v11, some (.ref fl2), some (.ref sl2), v14, v15, v16, v17, v18, v19] ∧ Same G13 G) ⟨_, _, _, _, _, _, _, _, _, rfl, Same.refl _⟩ (fun i σ G _ ⟨_, _, _, _, _, _, _, _, _, _, h⟩ => SqL.of (h _ _ ge13)) ?_ ?_
      · rintro i x σ G hx ⟨v1, v10, v11, v14, v15, v16, v17, v18, v19, rfl, sG⟩
        obtain ⟨t1, d, key, v, rfl, ht1, hd, hv⟩ := (ent11 x (List.mem_of_getElem? hx)).sol (sE13.trans (Sol.same sG))
        refine ⟨t1, _, rfl, SqT.of ht1, rfl, _, _, rfl, _, _, rfl, rfl, ?_⟩
        refine s1_if (fun b G3 => b = false ∧ Same G13 G3) (fun Q q => ?_) (fun _ h => by cases h.1) (fun G3 h => ⟨_, _, _, _, _, _, _, _, _, rfl, h.2⟩)
        exact ⟨_, rfl, _, rfl, _, rfl, _, rfl, fl2, sl2, _, _, key, d, _, rfl, SqL.of (sG _ _ gfl13), SqL.of (sG _ _ gsl2), paired_map (fun _ _ g => g.sol (Sol.same sG)) P13, envR_ok hd (row1 hv), fun G3 s3 => ⟨_, rfl, q _ _ ⟨rfl, sG.trans s3⟩⟩⟩
      rintro σ G14 ⟨v1, v10, v11, v14, v15, v16, v17, v18, v19, rfl, s14⟩
      dsimp only [tNext]
      have W14' := W13.same s14
      have ge14 := s14 _ _ ge13
      have gfl14 := s14 _ _ gfl13
      have gsl14 := s14 _ _ gsl2
      have ent14 : ∀ e ∈ es, Ent wd G14 e := fun e he => (ent11 e he).sol (sE13.trans (Sol.same s14))
      have P14 := paired_map (fun _ _ g => g.sol (Sol.same s14)) P13
      have Hfl : H fl2 = none := W11.bas.new nfl2
      have flp : fl2 ≠ p := W11.src.ne nfl2
      have lfl : l ≠ fl2 := ne_of_none W11.gl nfl2
      have plfl : pl ≠ fl2 := ne_of_none W11.gp nfl2
      have enfl : en ≠ fl2 := ne_of_none ge11 nfl2
      have Hsl : H sl2 = none := W12.bas.new nsl2
      have slp : sl2 ≠ p := W12.src.ne nsl2
      have lsl : l ≠ sl2 := ne_of_none W12.gl nsl2
      have plsl : pl ≠ sl2 := ne_of_none W12.gp nsl2
      have ensl : en ≠ sl2 := ne_of_none ge12 nsl2
      have flsl : fl2 ≠ sl2 := ne_of_none gfl2 nsl2
      refine sq_par (fun x y G => ∃ kd : Int, x = .int kd ∧ y = .ref fa' ∧ 0 ≤ kd ∧ kd < 4 ∧ Keep p G14 G ∧ Src G p 251) (fun Q q => ⟨_, rfl, p, _, _, rfl, W14'.src, by omega, by decide, by decide, fun G kd k s c0 c1 => ⟨_, rfl, q _ _ _ ⟨kd, rfl, rfl, c0, c1, k, s⟩⟩⟩) ?_
      rintro _ _ G15 ⟨kd, rfl, rfl, kd0, kd4, k15, S15⟩
      have W15 := W14'.keep lp pp k15 S15
      have so15 := Sol.keep W14'.src k15
      have ge15 := k15 _ _ enp ge14
      have gfl15 := k15 _ _ flp gfl14
      have gsl15 := k15 _ _ slp gsl14
      have f15 : ∀ {q : Addr} {tms : List Tm}, Fi CF G12 q tms → Fi CF G15 q tms := fun h => ((h.same s13).same s14).sol so15
      refine sq_ifJ (fun τ G => ∃ (nf qk : Addr) (wk : Str) (m : Int), τ = [some (.ref a), v1, some (.ref p), some (.ref l), some (.ref pl), some v1', some v2', some (.ref nf), some (.ref ga'), some (.ref en), v10, v11, some (.ref fl2), some (.ref sl2), v14, some (.int kd), some (.ref fa'), v17, v18, v19] ∧ Same G15 G ∧ Fi CF G nf (Shp.bin wk s t).tms ∧ Fi CF G qk (Shp.bin wk s t).tms ∧ wk ∈ words ∧ atI [V.str "and", V.str "or", V.str "minus", V.str "differ"] kd = some (V.str wk) ∧ atI [V.int 0, V.int 1, V.int 2, V.int 4] kd = some (V.int m) ∧ atI ([V.ref fa', .ref ga', .ref q1, .ref q2, .ref q3, .ref q4, .ref q5, .ref q6, .ref q7, .ref q8] ++ [.ref nf]) (2 + m) = some (.ref qk)) ?_ ?_
      · intro D' kD
        refine s1_if (fun b G => b = decide (V.int kd = V.int 0) ∧ G15 = G) (fun Q q => ⟨_, rfl, rfl, _, rfl, q _ _ ⟨rfl, rfl⟩⟩) ?_ ?_
        · rintro _ ⟨hk, rfl⟩
          have hk2 := of_decide_eq_true hk.symm
          cases hk2
          refine ⟨_, rfl, _, rfl, bin_rd W15.fa W15.ga (by omega) fun nf G nn sG hF => kD _ _ ⟨nf, q1, "and", 0, rfl, sG, by rw [tms_and]; exact hF, (f15 f1).same sG, by decide, rfl, rfl, rfl⟩⟩
        rintro _ ⟨hk, rfl⟩
        have hk0 := of_decide_eq_false hk.symm
        refine s1_if (fun b G => b = decide (V.int kd = V.int 1) ∧ G15 = G) (fun Q q => ⟨_, rfl, rfl, _, rfl, q _ _ ⟨rfl, rfl⟩⟩) ?_ ?_
        · rintro _ ⟨hk, rfl⟩
          have hk2 := of_decide_eq_true hk.symm
          cases hk2
          refine ⟨_, rfl, _, rfl, bin_rd W15.fa W15.ga (by omega) fun nf G nn sG hF => kD _ _ ⟨nf, q2, "or", 1, rfl, sG, by rw [tms_or]; exact hF, (f15 f2).same sG, by decide, rfl, rfl, rfl⟩⟩
        rintro _ ⟨hk, rfl⟩
        have hk1 := of_decide_eq_false hk.symm
        refine s1_if (fun b G => b = decide (V.int kd = V.int 2) ∧ G15 = G) (fun Q q => ⟨_, rfl, rfl, _, rfl, q _ _ ⟨rfl, rfl⟩⟩) ?_ ?_
        · rintro _ ⟨hk, rfl⟩
          have hk2 := of_decide_eq_true hk.symm
          cases hk2
          refine ⟨_, rfl, _, rfl, sub_read W15.fa W15.ga (by omega) fun nf G nn sG hF => kD _ _ ⟨nf, q3, "minus", 2, rfl, sG, by rw [tms_minus]; exact hF, (f15 f3).same sG, by decide, rfl, rfl, rfl⟩⟩
        rintro _ ⟨hk, rfl⟩
        have hk2 := of_decide_eq_false hk.symm
        have e3 : kd = 3 := by
          have n0 : kd ≠ 0 := fun e => hk0 (by rw [e])
          have n1 : kd ≠ 1 := fun e => hk1 (by rw [e])
          have n2 : kd ≠ 2 := fun e => hk2 (by rw [e])
          omega
        subst e3
        refine ⟨_, rfl, _, rfl, bin_rd W15.fa W15.ga (by omega) fun nf G nn sG hF => kD _ _ ⟨nf, q5, "differ", 4, rfl, sG, by rw [tms_differ]; exact hF, (f15 f5).same sG, by decide, rfl, rfl, rfl⟩⟩
      rintro _ G16 ⟨nf, qk, wk, m, rfl, s16, hnf, hqk, hwk, at1, at2, at3⟩
      have W16 := W15.same s16
      have ge16 := s16 _ _ ge15
      have gfl16 := s16 _ _ gfl15
      have gsl16 := s16 _ _ gsl15
      refine ⟨_, rfl, .inl ⟨rfl, _, SqL.of gfl16⟩, _, rfl, fl2, _, _, rfl, rfl, gfl16, (by show 10 < sizeLine; decide), ?_⟩
      have W17 := W16.set (o := .lst ([.ref fa', .ref ga', .ref q1, .ref q2, .ref q3, .ref q4, .ref q5, .ref q6, .ref q7, .ref q8] ++ [.ref nf])) gfl16 Hfl flp lfl plfl
      have so17 := Sol.set (o := .lst ([.ref fa', .ref ga', .ref q1, .ref q2, .ref q3, .ref q4, .ref q5, .ref q6, .ref q7, .ref q8] ++ [.ref nf])) gfl16
      have ge17 : (upd G16 fl2 (.lst ([.ref fa', .ref ga', .ref q1, .ref q2, .ref q3, .ref q4, .ref q5, .ref q6, .ref q7, .ref q8] ++ [.ref nf]))) en = some (.lst es) := by rw [upd_ne enfl]; exact ge16
      have gsl17 : (upd G16 fl2 (.lst ([.ref fa', .ref ga', .ref q1, .ref q2, .ref q3, .ref q4, .ref q5, .ref q6, .ref q7, .ref q8] ++ [.ref nf]))) sl2 = _ := (upd_ne flsl.symm).trans gsl16
      have gfl17 := upd_same (H := G16) (a := fl2) (o := .lst ([.ref fa', .ref ga', .ref q1, .ref q2, .ref q3, .ref q4, .ref q5, .ref q6, .ref q7, .ref q8] ++ [.ref nf]))
      generalize hxs : ([.ref fa', .ref ga', .ref q1, .ref q2, .ref q3, .ref q4, .ref q5, .ref q6, .ref q7, .ref q8] : List V) = xs10 at W17 so17 ge17 gsl17 gfl17 at3 P14 ⊢
      generalize upd G16 fl2 (.lst (xs10 ++ [.ref nf])) = G17 at W17 so17 ge17 gsl17 gfl17 ⊢
      generalize hys : ([v1', v2', .ref e1, .ref e2, .ref e3, .ref e4, .ref e5, .ref e6, .ref e7, v2'] : List V) = ys10 at gsl17 P14
      have xl : xs10.length = 10 := by rw [← hxs]; rfl
      have yl : ys10.length = 10 := by rw [← hys]; rfl
      refine ⟨_, rfl, .inl ⟨rfl, _, SqL.of gsl17⟩, (by show 4 ≤ sizeLine; decide), fun L nL => ?_⟩
      have sL := Lw.Same.new (o := .lst [.str "and", .str "or", .str "minus", .str "differ"]) (Same.refl G17) nL
      refine ⟨_, rfl, L, _, _, _, rfl, rfl, SqL.of upd_same, at1, _, rfl, _, rfl, (by show 3 ≤ sizeLine; decide), fun e8 ne8 => ?_⟩
      have sE := sL.trans (Lw.Same.new (o := .tup [.str wk, v1', v2']) (Same.refl _) ne8)
      have te8 := upd_same (H := upd G17 L (.lst [.str "and", .str "or", .str "minus", .str "differ"])) (a := e8) (o := .tup [.str wk, v1', v2'])
      generalize upd (upd G17 L (.lst [.str "and", .str "or", .str "minus", .str "differ"])) e8 (.tup [.str wk, v1', v2']) = G18 at sE te8 ⊢
      have gsl18 := sE _ _ gsl17
      refine ⟨sl2, ys10, .ref e8, rfl, rfl, gsl18, (by rw [yl]; decide), ?_⟩
      have W19 := (W17.same sE).set (o := .lst (ys10 ++ [.ref e8])) gsl18 Hsl slp lsl plsl
      have so19 := Sol.set (o := .lst (ys10 ++ [.ref e8])) gsl18
      have so := ((Sol.same s16).trans (so17.trans (Sol.same sE))).trans so19
      have ge19 : (upd G18 sl2 (.lst (ys10 ++ [.ref e8]))) en = some (.lst es) := by rw [upd_ne ensl]; exact sE _ _ ge17
      have gfl19 : (upd G18 sl2 (.lst (ys10 ++ [.ref e8]))) fl2 = some (.lst (xs10 ++ [.ref nf])) := by rw [upd_ne flsl]; exact sE _ _ gfl17
      have gsl19 := upd_same (H := G18) (a := sl2) (o := .lst (ys10 ++ [.ref e8]))
      have te19 := so19.tup te8
      generalize upd G18 sl2 (.lst (ys10 ++ [.ref e8])) = G19 at W19 so19 so ge19 gfl19 gsl19 te19 ⊢
      have hnf19 := hnf.sol ((so17.trans (Sol.same sE)).trans so19)
      have hqk19 := hqk.sol ((so17.trans (Sol.same sE)).trans so19)
      have ent19 : ∀ e ∈ es, Ent wd G19 e := fun e he => (ent14 e he).sol (so15.trans so)
      have sB : (Shp.bin wk s t).size < 60 := pb wk s t sz sz2
      have P19 : Paired (Goes CF G19) (xs10 ++ [.ref nf]) (ys10 ++ [.ref e8]) := Paired.snoc (paired_map (fun _ _ g => g.sol (so15.trans so)) P14) (goes_of rfl hnf19 sB ⟨e8, v1', v2', rfl, te19, W19.sh1, W19.sh2⟩ ⟨hwk, ok, ok2⟩ (dpb wk s t dp dp2))
      have lnB := Nat.lt_of_le_of_lt (Shp.len (Shp.bin wk s t)) sB
      have gdB : (Shp.bin wk s t).good := ⟨gd, gd2⟩
      refine ⟨_, rfl, en, rfl, ⟨_, SqL.of ge19⟩, ?_⟩
      refine for_list (xs := es) (fun i σ G => ∃ v1 v10 v11 v14 v17 v18 v19 : Option V, σ = [some (.ref a), v1, some (.ref p), some (.ref l), some (.ref pl), some v1', some v2', some (.ref nf), some (.ref ga'), some (.ref en), v10, v11, some (.ref fl2), some (.ref sl2), v14, some (.int kd), some (.ref fa'), v17, v18, v19] ∧ Keep p G19 G ∧ Src G p (251 + i)) ⟨_, _, _, _, _, _, _, rfl, Keep.refl _, W19.src⟩ (fun i σ G _ ⟨_, _, _, _, _, _, _, _, h, _⟩ => SqL.of (h _ _ enp ge19)) ?_ ?_
      · rintro i x σ G hx ⟨v1, v10, v11, v14, v17, v18, v19, rfl, kG, sG⟩
        have hi : i < 3 := by
          have := (List.getElem?_eq_some_iff.mp hx).1
          omega
        have soG := Sol.keep W19.src kG
        obtain ⟨t1, d, key, v, rfl, ht1, hd, hv⟩ := (ent19 x (List.mem_of_getElem? hx)).sol soG
        have eo := envR_ok (key := key) hd (row1 hv)
        generalize henv : envR key [(.inr wd, v)] = env at eo
        refine ⟨t1, _, rfl, SqT.of ht1, rfl, _, _, rfl, _, _, rfl, rfl, ?_⟩
        refine sq_if1 (fun b G3 => b = false ∧ Same G G3) (fun Q q => ?_) (fun _ h => by cases h.1) ?_
        · refine ⟨_, rfl, _, rfl, _, rfl, _, rfl, fl2, sl2, _, _, key, d, _, rfl, SqL.of (kG _ _ flp gfl19), SqL.of (kG _ _ slp gsl19), paired_map (fun _ _ g => g.sol soG) P19, eo, fun G3 s3 => ⟨_, rfl, ite_bf rfl ?_⟩⟩
          refine ⟨_, rfl, (by show 1 ≤ sizeLine; decide), fun L1 nL1 => ⟨_, rfl, (by show 1 ≤ sizeLine; decide), fun L2 nL2 => ?_⟩⟩
          have sa := Lw.Same.new (o := .lst [.ref fa']) (Same.refl G3) nL1
          have sb := Lw.Same.new (o := .lst [v1']) (Same.refl _) nL2
          have s5 := (s3.trans sa).trans sb
          have W5 := (W19.keep lp pp kG sG).same s5
          exact ⟨_, rfl, _, rfl, L1, L2, _, _, key, d, _, rfl, SqL.of (sb _ _ upd_same), SqL.of upd_same, .cons (goes_of rfl W5.fa (by omega) W5.sh1 ok (by omega)) .nil, eo.same s5, fun G6 s6 => ⟨_, rfl, q _ _ ⟨rfl, s5.trans s6⟩⟩⟩
        rintro G3 ⟨_, s3⟩
        have hd3 := s3 _ _ hd
        have S3 := sG.same s3
        refine sq_set (fun x G4 => ∃ d2, x = .ref d2 ∧ G3 d2 = none ∧ Same G3 G4 ∧ G4 d2 = some (.dK [(.inr wd, v)])) (fun Q q => ⟨_, rfl, d, _, rfl, .inl hd3, fun d2 n2 => q _ _ ⟨d2, rfl, n2, Lw.Same.new (Same.refl G3) n2, upd_same⟩⟩) ?_
        rintro _ G4 ⟨d2, rfl, n2, s4, gd2'⟩
        have d2p : d2 ≠ p := S3.ne n2
        have n19 : G19 d2 = none := kG.none (none_of_same s3 n2) d2p
        have k4 := (kG.trans (Keep.of_same s3)).trans (Keep.of_same s4)
        have so4 := Sol.keep W19.src k4
        have hn4 := hnf19.sol so4
        have eo4 := envR_ok (key := key) gd2' (row1 hv)
        rw [henv] at eo4
        refine sq_set (fun x G5 => x = tV (sem env (Shp.bin wk s t)) ∧ Same G4 G5) (fun Q q => ?_) ?_
        · obtain ⟨dx, tt, us, x1, x2, x3⟩ := id hn4
          exact ⟨_, rfl, nf, dx, _, rfl, x1, rfl, _, rfl, _, rfl, nf, d2, _, key, env, _, [], rfl, hn4, lnB, eo4, evs_tms env _ [], fun G5 s5 => q _ _ ⟨rfl, s5⟩⟩
        rintro _ G5 ⟨rfl, s5⟩
        have k5 := k4.trans (Keep.of_same s5)
        have S5' := (S3.same s4).same s5
        refine ⟨_, rfl, _, rfl, p, pl, _, _, rfl, S5', by omega, pp, SqL.of (k5 _ _ pp W19.gp), (fun e => m0 (List.map_eq_nil_iff.mp e)), (by rw [List.length_map]; omega), fun G6 x6 k6 s6 hx6 => ?_⟩
        refine ⟨_, rfl, _, rfl, l, _, _, .str wd, rfl, rfl, SqL.of (k6 _ _ lp (k5 _ _ lp W19.gl)), rfl, d2, _, rfl, DPut.k (k := .inr wd) (k6 _ _ d2p (s5 _ _ gd2')) (by show 1 < sizeLine; decide), ?_⟩
        have k7 := keep_at (o := .dK (putK [(.inr wd, v)] (.inr wd) x6)) n19 (k5.trans k6)
        have S7 : Src (upd G6 d2 (.dK (putK [(.inr wd, v)] (.inr wd) x6))) p (251 + (i + 1)) := by
          obtain ⟨x1, x2, x3, y1, y2⟩ := s6.mono (show 251 + i + 1 ≤ 251 + (i + 1) by omega)
          exact ⟨x1, x2, x3, by rw [upd_ne d2p.symm]; exact y1, y2⟩
        have k37 : Keep p G3 (upd G6 d2 (.dK (putK [(.inr wd, v)] (.inr wd) x6))) := keep_at n2 (((Keep.of_same s4).trans (Keep.of_same s5)).trans k6)
        have eo7 := (eo.same s3).sol (Sol.keep S3 k37)
        generalize upd G6 d2 (.dK (putK [(.inr wd, v)] (.inr wd) x6)) = G7 at k7 S7 k37 eo7 ⊢
        have hn7 := hnf19.sol (Sol.keep W19.src k7)
        dsimp only
        refine s1_if (fun b G8 => b = false ∧ Same G7 G8) (fun Q q => ?_) (fun _ h => by cases h.1) (fun G8 h => ⟨_, _, _, _, _, _, _, rfl, k7.trans (Keep.of_same h.2), S7.same h.2⟩)
        obtain ⟨dx, tt, us, x1, x2, x3⟩ := id hn7
        exact ⟨_, rfl, nf, dx, _, rfl, x1, rfl, _, rfl, _, rfl, nf, d, _, key, env, _, [], rfl, hn7, lnB, eo7, evs_tms env _ [], fun G8 s8 => ⟨_, rfl, _, _, rfl, fun G9 s9 => ⟨_, rfl, q _ _ ⟨by rw [decide_eq_true rfl]; rfl, s8.trans s9⟩⟩⟩⟩
      rintro σ G20 ⟨v1, v10, v11, v14, v17, v18, v19, rfl, k20, S20⟩
      dsimp only [tNext]
      have so20 := Sol.keep W19.src k20
      have hn20 := hnf19.sol so20
      have hq20 := hqk19.sol so20
      refine s1_if (fun b G8 => b = false ∧ Keep p G20 G8) (fun Q q => ?_) (fun _ h => by cases h.1) (fun G8 h => ⟨_, _, _, _, _, _, _, _, _, _, _, _, _, _, _, _, _, _, _, rfl, fun b o hb => (W19.bas.keep (k20.trans h.2)).out b o hb⟩)
      obtain ⟨dx, tt, us, x1, x2, x3⟩ := id hn20
      refine ⟨_, rfl, nf, dx, _, rfl, x1, rfl, nf, _, rfl, hn20, lnB, fun ys y1 G21 s21 g21 so1 nd1 mem1 _ => ?_⟩
      refine ⟨_, rfl, (by show 4 ≤ sizeLine; decide), fun L nL => ?_⟩
      have sL := Lw.Same.new (o := .lst [.int 0, .int 1, .int 2, .int 4]) (Same.refl G21) nL
      have s22 := s21.trans sL
      have hq22 := hq20.same s22
      obtain ⟨dx', tt', us', z1, z2, z3⟩ := id hq22
      refine ⟨_, rfl, L, _, _, _, rfl, rfl, SqL.of upd_same, at2, _, _, rfl, rfl, fl2, _, _, _, rfl, rfl, SqL.of (s22 _ _ (k20 _ _ flp gfl19)), at3, qk, dx', _, rfl, z1, rfl, qk, _, rfl, hq22, lnB, fun ys2 y2 G23 s23 g23 so2 nd2 mem2 _ => ?_⟩
      have ey : ys = ys2 := sorted_one so1 so2 ((List.perm_ext_iff_of_nodup nd1 nd2).mpr fun z => (mem1 z).trans (mem2 z).symm)
      subst ey
      have hwd : ∀ z ∈ ys, IsWord z := fun z hz => by
        obtain ⟨m', hm', e'⟩ := (mem1 z).mp hz
        exact good_words (Shp.bin wk s t) gdB m' hm' z e'
      refine ⟨.list (ys.map PyData.str), .list (ys.map PyData.str), .lst (SqL.of (s23 _ _ (sL _ _ g21))) (dp_strs _), .lst (SqL.of g23) (dp_strs _), shaped_strs _ hwd, shaped_strs _ hwd, _, rfl, ?_⟩
      rw [eqv_strs hwd]
      exact q _ _ ⟨rfl, ((Keep.of_same s21).trans (Keep.of_same sL)).trans (Keep.of_same s23)⟩
    · rintro σ H' ⟨v1, v2, v3, v4, v5, v6, v7, v8, v9, v10, v11, v12, v13, v14, v15, v16, v17, v18, v19, rfl, sH⟩
      exact k _
end
end Lw

set_option Elab.async false
set_option linter.all false
set_option maxRecDepth 100000
set_option maxHeartbeats 0
namespace Hb
open PySem PySem.Spec PyProof.Rows L2
/-! a Hook: facts, defs wherever they stand, one Bool more; the table of modules is seen too -/
abbrev Al : Type := He.AlD × Bool
def asB (g : Addr → Option Obj) (n : Nat) : List Addr := He5.asA g n ++ [sysModules]
def obG (n : Nat) (fa : List He.Fa) (fn : List He5.DefA) (own : PySem.W.Frag → Bool) (g : Addr → Option Obj) : Al := (He5.obsA fa fn (He.frG g (asB g n)), own (He.frG g (asB g n)))
def Says (fa : List He.Fa) (fn : List He5.DefA) (own : PySem.W.Frag → Bool) (K : PySem.W.Frag) : Prop := He5.SaysA fa fn K ∧ own K = true
def hook (n : Nat) (fa : List He.Fa) (fn : List He5.DefA) (own : PySem.W.Frag → Bool) : PySem.W.Hook where
  α := Al
  obs := fun s => obG n fa fn own s.heap.get?
  val := fun _ => (He5.valA fn, true)
  says := fun _ h => ∃ K : PySem.W.Frag, K.In h ∧ Says fa fn own K
  of := fun _ _ e => ⟨_, He.frG_in, congrArg Prod.fst e, congrArg Prod.snd e⟩
  keeps := fun _ _ _ ⟨K, hK, c⟩ k => ⟨K, PySem.W.Frag.In.keeps hK k, c⟩
theorem obG_eq {n : Nat} {fa : List He.Fa} {fn : List He5.DefA} {own : PySem.W.Frag → Bool} {g : Addr → Option Obj} {s : Shared} (h : ∀ a, g a = s.heap.get? a) : obG n fa fn own g = (hook n fa fn own).obs s := by
  rw [show g = s.heap.get? from funext h] <;> rfl
theorem Says.fact {fa : List He.Fa} {fn : List He5.DefA} {own : PySem.W.Frag → Bool} {K : PySem.W.Frag} (c : Says fa fn own K) {f : He.Fa} (hf : f ∈ fa) : f.ok K = true := by
  obtain ⟨i, hi⟩ := List.getElem?_of_mem hf
  exact c.1.fact i hi
/-- a class's constants -/
def cvS (K : PySem.W.Frag) (C : Addr) (f z : Str) : Bool := match PySem.W.findCls K (.ref C) (.type "type") f with
  | some (.val (.str y _)) => decide (y = z)
  | _ => false
def cvI (K : PySem.W.Frag) (C : Addr) (f : Str) (i : Int) : Bool := match PySem.W.findCls K (.ref C) (.type "type") f with
  | some (.val (.int y _)) => decide (y = i)
  | _ => false
theorem cvS_ok {K : PySem.W.Frag} {C : Addr} {f z : Str} (h : cvS K C f z = true) : ∃ u, ClX.CVal K C (.type "type") f (.str z) u := by
  unfold cvS at h
  split at h
  · rename_i y t e
    exact ⟨_, e, t, by rw [of_decide_eq_true h]⟩
  · cases h
theorem cvI_ok {K : PySem.W.Frag} {C : Addr} {f : Str} {i : Int} (h : cvI K C f i = true) : ∃ u, ClX.CVal K C (.type "type") f (.int i) u := by
  unfold cvI at h
  split at h
  · rename_i y t e
    exact ⟨_, e, t, by rw [of_decide_eq_true h]⟩
  · cases h
def crB (K : PySem.W.Frag) (C : Addr) : Bool := PySem.W.readsIn K C (.type "type") && He.eqO (PySem.W.specialIn K (.ref C) "__getattribute__") (some (some (.builtin "type.__getattribute__")))
theorem crB_ok {K : PySem.W.Frag} {C : Addr} (h : crB K C = true) : ClX.CRead K C (.type "type") := ⟨(He.ba h).1, He.eqO_ok (He.ba h).2⟩
def sysB (K : PySem.W.Frag) : Bool := match K.lookup sysModules with
  | some o => decide (o.cls = .type "dict")
  | none => false
theorem sysB_ok {K : PySem.W.Frag} (h : sysB K = true) : Lg.SysIn K := by
  unfold sysB at h
  split at h
  · rename_i o e
    exact ⟨o, e, of_decide_eq_true h⟩
  · cases h
end Hb

set_option Elab.async false
set_option linter.all false
set_option maxRecDepth 100000
set_option maxHeartbeats 0
namespace Hd
open PySem PySem.Spec PyProof.Rows L2
/-! a Hook: facts, defs wherever they stand, written dicts, one Bool more; the table of modules is seen -/
abbrev Tb : Type := List (Option (List (Option (PySem.Str × Int))))
abbrev Al : Type := He.AlD × (Tb × Bool)
def tbs (ts : List He.Tab) (K : PySem.W.Frag) : Tb := ts.map fun t => He.dicW K (t.1 K)
def tbv (ts : List He.Tab) (w : World) : Tb := ts.map fun t => some (He.keysIn w.params t.2)
def obG (n : Nat) (fa : List He.Fa) (fn : List He5.DefA) (ts : List He.Tab) (own : PySem.W.Frag → Bool) (g : Addr → Option Obj) : Al :=
  (He5.obsA fa fn (He.frG g (Hb.asB g n)), (tbs ts (He.frG g (Hb.asB g n)), own (He.frG g (Hb.asB g n))))
def Says (fa : List He.Fa) (fn : List He5.DefA) (ts : List He.Tab) (own : PySem.W.Frag → Bool) (w : World) (K : PySem.W.Frag) : Prop := He5.SaysA fa fn K ∧ (tbs ts K = tbv ts w ∧ own K = true)
theorem says_of {n : Nat} {fa : List He.Fa} {fn : List He5.DefA} {ts : List He.Tab} {own : PySem.W.Frag → Bool} {w : World} {g : Addr → Option Obj} (e : obG n fa fn ts own g = (He5.valA fn, (tbv ts w, true))) : Says fa fn ts own w (He.frG g (Hb.asB g n)) :=
  ⟨congrArg Prod.fst e, congrArg Prod.fst (congrArg Prod.snd e), congrArg Prod.snd (congrArg Prod.snd e)⟩
def hook (n : Nat) (fa : List He.Fa) (fn : List He5.DefA) (ts : List He.Tab) (own : PySem.W.Frag → Bool) : PySem.W.Hook where
  α := Al
  obs := fun s => obG n fa fn ts own s.heap.get?
  val := fun w => (He5.valA fn, (tbv ts w, true))
  says := fun w h => ∃ K : PySem.W.Frag, K.In h ∧ Says fa fn ts own w K
  of := fun _ _ e => ⟨_, He.frG_in, says_of e⟩
  keeps := fun _ _ _ ⟨K, hK, c⟩ k => ⟨K, PySem.W.Frag.In.keeps hK k, c⟩
theorem obG_eq {n : Nat} {fa : List He.Fa} {fn : List He5.DefA} {ts : List He.Tab} {own : PySem.W.Frag → Bool} {g : Addr → Option Obj} {s : Shared} (h : ∀ a, g a = s.heap.get? a) : obG n fa fn ts own g = (hook n fa fn ts own).obs s := by
  rw [show g = s.heap.get? from funext h] <;> rfl
section
variable {fa : List He.Fa} {fn : List He5.DefA} {ts : List He.Tab} {own : PySem.W.Frag → Bool} {w : World} {K : PySem.W.Frag}
theorem Says.fact (c : Says fa fn ts own w K) {f : He.Fa} (hf : f ∈ fa) : f.ok K = true := by
  obtain ⟨i, hi⟩ := List.getElem?_of_mem hf
  exact c.1.fact i hi
theorem Says.tab (c : Says fa fn ts own w K) (i : Nat) {t : He.Tab} (h : ts[i]? = some t := by rfl) : ∃ es n, KDict K w (t.1 K) es n := by
  have e := congrArg (fun l : Tb => l[i]?) c.2.1
  simp only [tbs, tbv, List.getElem?_map, h] at e
  exact He.dicW_ok (Option.some.inj e)
end
end Hd
namespace Lw
open PySem PySem.Spec PyProof.Rows L2
def dG (x : Str) (st : Stmt) : He5.DefA := ⟨fun K => He.ga K x, x, x, defArgs st, defBody st, defScope st, [], []⟩
def dM (C m q : Str) (st : Stmt) : He5.DefA := ⟨fun K => He.ma K (He.ga K C) m, m, q, defArgs st, defBody st, defScope st, [], []⟩
def dSt (C m q : Str) (st : Stmt) : He5.DefA := ⟨fun K => He5.wf K (He.ga K C) "staticmethod" m, m, q, defArgs st, defBody st, defScope st, [], []⟩
end Lw

set_option Elab.async false
set_option linter.all false
set_option maxRecDepth 100000
set_option maxHeartbeats 0
namespace Lw
open PySem PySem.Spec PyProof.Rows L2
def fn1 : List He5.DefA := [dG "is_integer" sIsInteger, dG "is_word" sIsWord, dG "compare" sComp, dG "is_empty" sEmp, dG "weigh" sWeigh, dG "_joined" sJoined, dG "_tested" sTested, dG "_cell_truth" sCellT]
def fn2 : List He5.DefA := [dM "Filter" "__init__" "Filter.__init__" sFI, dSt "Filter" "every" "Filter.every" sEvery, dSt "Filter" "nothing" "Filter.nothing" sNothing, dM "Filter" "truth" "Filter.truth" sTruM, dM "Filter" "masks" "Filter.masks" sMasks, dM "Filter" "__contains__" "Filter.__contains__" sConM, dM "Filter" "mentions" "Filter.mentions" sMent]
def fn4 : List He5.DefA := [dM "Filter" "__invert__" "Filter.__invert__" sInv, dM "Filter" "__and__" "Filter.__and__" sAnd, dM "Filter" "__or__" "Filter.__or__" sOr, dM "Filter" "__sub__" "Filter.__sub__" sSub, dM "Filter" "__xor__" "Filter.__xor__" sXor]
def fn3 : List He5.DefA := [dG "_law_source" sSource, dG "_law_draw" sDraw, dG "_law_of" sOf, dG "_law_number" sNumber, dG "_law_near" sNear, dG "_law_same" sSame, dG "_law_word" sWord, dG "_law_leaf" sLeaf, dG "_law_shape" sShape, dG "_law_filter" sFilter, dG "_law_truth" sTruth, dG "_law_told" sTold, dG "law" sLaw]
def fn : List He5.DefA := fn1 ++ (fn2 ++ (fn4 ++ fn3))
def glos1 : List Str := ["is_integer", "is_word", "compare", "is_empty", "weigh", "_joined", "_tested", "_cell_truth", "Filter", "Table", "SIGNS"]
def glos2 : List Str := ["_law_source", "_law_draw", "_law_of", "_law_number", "_law_near", "_law_same", "_law_word", "_law_leaf", "_law_shape", "_law_filter", "_law_truth", "_law_told", "law"]
def glos : List Str := glos1 ++ glos2
def frees : List Str := ["len", "abs", "int", "range", "isinstance", "bool", "str", "list", "tuple", "dict", "all", "max", "min", "sorted", "zip"]
def fa2 : List He.Fa := [.meth "Filter" "__invert__", .meth "Filter" "__and__", .meth "Filter" "__or__", .meth "Filter" "__sub__", .meth "Filter" "__xor__"]
def fa1 : List He.Fa := [.int "LONGEST_WORD" 8, .str "EMPTY" "empty", .str "EVERY" "every", .str "NOTHING" "nothing", .str "NOT" "~", .str "AND" "&", .str "OR" "|", .str "XOR" "^", .cls "Filter", .noat "Filter" "_terms", .mkr "Filter", .meth "Filter" "truth", .meth "Filter" "masks", .meth "Filter" "__contains__", .meth "Filter" "mentions"]
def fa : List He.Fa := glos.map He.Fa.glo ++ (frees.map He.Fa.free ++ (fa1 ++ fa2))
def tabs : List He.Tab := [(fun K => He.ga K "SIGNS", signs)]
def sgB (K : PySem.W.Frag) (y : Str) : Bool := match PySem.W.nsIn K (He.ga K "SIGNS") y with
  | some (some (.ref t)) => tupB K t ((places y).map V.int)
  | _ => false
def stB (K : PySem.W.Frag) (m : Str) : Bool := He5.wrapB K (He.ga K "Filter") "staticmethod" "staticmethod.__get__" m && PySem.W.keepIn K (.ref (He5.wf K (He.ga K "Filter") "staticmethod" m))
def noIB (K : PySem.W.Frag) (C : Addr) (op : Operator) : Bool := (match PySem.W.clsIn K C with
  | some cd => decide (cd.mro = [.ref C, .type "object"])
  | none => false) && (He.eqO (PySem.W.findIn K (.ref C) (dunderI op.info.2)) (some none) && He.eqO (PySem.W.findIn K (.type "object") (dunderI op.info.2)) (some none))
theorem noIB_ok {K : PySem.W.Frag} {C : Addr} {op : Operator} (h : noIB K C op = true) : Ik.NoI K C op := by
  obtain ⟨h1, h⟩ := He.ba h
  obtain ⟨h2, h3⟩ := He.ba h
  refine ⟨?_, He.eqO_ok h2, He.eqO_ok h3⟩
  split at h1
  · rename_i cd e
    exact ⟨cd, e, of_decide_eq_true h1⟩
  · cases h1
def opsB (K : PySem.W.Frag) (C : Addr) : Bool := noIB K C .BitAnd && (noIB K C .BitOr && (noIB K C .BitXor && noIB K C .Sub))
def own (K : PySem.W.Frag) : Bool := Hb.crB K (He.ga K "Filter") && (Hb.crB K (He.ga K "Table") && (Hb.cvS K (He.ga K "Table") "KEY" "key" && (stB K "every" && (stB K "nothing" && (signs.all (sgB K) && (PySem.W.selfFirst K (He.ga K "Filter") && opsB K (He.ga K "Filter")))))))
abbrev R : PySem.W.OpenRow := PySem.W.OpenLaw.row PySem.Challenge.rw_filteredcopies_k14_filters_stay
abbrev qv : Program := PySem.W.view R.prog [52]
def names1 : List Str := ["_wall", "LONGEST_WORD", "is_integer", "is_word", "copied", "CopiesError", "BadColumn", "BadTable", "BadFilter", "NoColumn", "MANY_ENTRIES", "samples", "cells_between", "slices"]
def names2 : List Str := ["spread", "Column", "Table", "SIGNS", "EMPTY", "EVERY", "NOTHING", "NOT", "AND", "OR", "XOR", "weigh", "_joined", "_tested"]
def names3 : List Str := ["_cell_truth", "compare", "is_empty", "Filter", "_same_entries", "_law_source", "_law_draw", "_law_of", "_law_number", "_law_near", "_law_same", "_law_word", "_law_leaf", "_law_shape"]
def names4 : List Str := ["_law_filter", "_law_truth", "_law_told"]
def names : List Str := names1 ++ (names2 ++ (names3 ++ (names4)))
abbrev hk : PySem.W.Hook := Hd.hook 6 fa fn tabs own
def ob (s : PySem.W.SharedT) : Hd.Al := Hd.obG 6 fa fn tabs own (HandSHeadRun.getT s)
theorem ob_eq (s : PySem.W.SharedT) : ob s = hk.obs s.abs := Hd.obG_eq (HandSHeadRun.getT_eq s)
theorem run1 (w : World) : HandSHeadRun.RunEq R qv hk ob 9000 names (w.withFollow "special-get-raises" false) := by intro os; kernel_rfl
theorem run2 (w : World) : HandSHeadRun.RunEq R qv hk ob 9000 names (w.withFollow "special-get-raises" true) := by intro os; kernel_rfl
theorem run (w : World) : HandSHeadRun.RunEq R qv hk ob 9000 names w :=
  PySem.W.byRow2 "special-get-raises" (P := fun w => HandSHeadRun.RunEq R qv hk ob 9000 names w) run1 run2 w
end Lw

set_option Elab.async false
set_option linter.all false
set_option maxRecDepth 100000
set_option maxHeartbeats 4000000
namespace Lw
open PySem PySem.Spec PyProof.Rows L2 Lg
section
variable {K : PySem.W.Frag} {h : Heap} {mg : Str → Option Value} {w : World}
theorem f_glo (X : K.In h) (G : h.Ns mainGlobals mg) (c : Hd.Says fa fn tabs own w K) {x : Str} (hx : x ∈ glos) : mg x = some (.ref (He.ga K x)) :=
  He.glo_ok X G (c.fact (f := .glo x) (List.mem_append_left _ (List.mem_map_of_mem hx)))
theorem f_free (X : K.In h) (G : h.Ns mainGlobals mg) (c : Hd.Says fa fn tabs own w K) {x : Str} (hx : x ∈ frees) : mg x = none :=
  He.free_ok X G (c.fact (f := .free x) (List.mem_append_right _ (List.mem_append_left _ (List.mem_map_of_mem hx))))
theorem f_one (c : Hd.Says fa fn tabs own w K) {f : He.Fa} (hf : f ∈ fa1) : f.ok K = true := c.fact (List.mem_append_right _ (List.mem_append_right _ (List.mem_append_left _ hf)))
theorem f_two (c : Hd.Says fa fn tabs own w K) {f : He.Fa} (hf : f ∈ fa2) : f.ok K = true := c.fact (List.mem_append_right _ (List.mem_append_right _ (List.mem_append_right _ hf)))
theorem f_st {m : Str} (h : stB K m = true) : Sm.SMet K (He.ga K "Filter") (.type "type") m (He.ma K (He.ga K "Filter") m) (He5.wf K (He.ga K "Filter") "staticmethod" m) := by
  obtain ⟨h1, h2⟩ := He.ba h
  obtain ⟨a, b⟩ := He5.wrapB_ok h1
  exact ⟨a, b, h2⟩
theorem f_sg (h : signs.all (sgB K) = true) (y : Str) (hy : y ∈ signs) : ∃ t : Addr, PySem.W.nsIn K (He.ga K "SIGNS") y = some (some (.ref t)) ∧ ∀ H, SqT K H t ((places y).map V.int) := by
  have z := List.all_eq_true.mp h y hy
  unfold sgB at z
  split at z
  · rename_i t e
    exact ⟨t, e, fun H => tupB_ok z⟩
  · cases z
end
theorem kb1 {K : PySem.W.Frag} {x qual : Str} {params : Arguments} {body : List Stmt} {scope : Scope} {kws : List (Str × V)} {f : Addr} {fd : FuncData} {ps ks : List Str} {g : List Value → List Value} {gV : List V → List V} (F : FunD K x qual params body scope [] kws f fd) (hr : ∀ {zs us}, Vals zs us → Vals (gV zs) (g us))
    (h : ∀ (kV doc pm : Value) (an : Option Addr) (cdv ct : Value) (u : Value) (ws : List Value), ws.length = ks.length → bindArgs (PySem.W.fnOf x qual params body scope .none kV doc pm an cdv ct) ⟨[u], ks.zip ws⟩ = pure (ps.zip (u :: g ws))) : KBn K fd ps 1 ks (fun us ws => us ++ g ws) (fun vs zs => vs ++ gV zs) := by
  obtain ⟨oc, od, dV, kV, doc, pm, an, cdv, ct, osl, rfl, lk, hcd, hD, hK⟩ := F.ex
  rcases hD with ⟨_, rfl⟩ | ⟨e, _⟩
  · exact ⟨fun s us ws _ l1 l2 => by
      match us, l1 with
      | [u], _ => exact .of_eq (h kV doc pm an cdv ct u ws l2), fun r q => r.append (hr q)⟩
  · exact absurd rfl e
theorem facts {P : Program} {w : World} {K : PySem.W.Frag} {h : Heap} {mg : Str → Option Value} {f : Addr} (X : K.In h) (G : h.Ns mainGlobals mg) (hfa : mg ("law" : Str) = some (.ref f)) (c : Hd.Says fa fn tabs own w K) :
    ∃ fd : FuncData, (∀ (s : Shared) (v : Value), BindsTo s fd ⟨[v], []⟩ [("script", v)]) ∧ ∀ base : Heap, K.In base → base.Ns mainGlobals mg → FnOk P w K mg base CX0 20 f fd ["script"] (spLaw K) := by
  have gl : ∀ {x : Str}, x ∈ glos → mg x = some (.ref (He.ga K x)) := fun hx => f_glo X G c hx
  have fr : ∀ {x : Str}, x ∈ frees → mg x = none := fun hx => f_free X G c hx
  obtain ⟨o1, o⟩ := He.ba c.2.2
  obtain ⟨o2, o⟩ := He.ba o
  obtain ⟨o3, o⟩ := He.ba o
  obtain ⟨o4, o⟩ := He.ba o
  obtain ⟨o5, o⟩ := He.ba o
  obtain ⟨o6, o⟩ := He.ba o
  obtain ⟨o7, o⟩ := He.ba o
  obtain ⟨oA', o⟩ := He.ba o
  obtain ⟨oO', o⟩ := He.ba o
  obtain ⟨oX', oS'⟩ := He.ba o
  obtain ⟨d0, D0⟩ := c.1.def_ 0 (d := dG "is_integer" sIsInteger) rfl
  obtain ⟨d1, D1⟩ := c.1.def_ 1 (d := dG "is_word" sIsWord) rfl
  obtain ⟨d2, D2⟩ := c.1.def_ 2 (d := dG "compare" sComp) rfl
  obtain ⟨d3, D3⟩ := c.1.def_ 3 (d := dG "is_empty" sEmp) rfl
  obtain ⟨d4, D4⟩ := c.1.def_ 4 (d := dG "weigh" sWeigh) rfl
  obtain ⟨d5, D5⟩ := c.1.def_ 5 (d := dG "_joined" sJoined) rfl
  obtain ⟨d6, D6⟩ := c.1.def_ 6 (d := dG "_tested" sTested) rfl
  obtain ⟨d7, D7⟩ := c.1.def_ 7 (d := dG "_cell_truth" sCellT) rfl
  obtain ⟨d8, D8⟩ := c.1.def_ 8 (d := dM "Filter" "__init__" "Filter.__init__" sFI) rfl
  obtain ⟨d9, D9⟩ := c.1.def_ 9 (d := dSt "Filter" "every" "Filter.every" sEvery) rfl
  obtain ⟨d10, D10⟩ := c.1.def_ 10 (d := dSt "Filter" "nothing" "Filter.nothing" sNothing) rfl
  obtain ⟨d11, D11⟩ := c.1.def_ 11 (d := dM "Filter" "truth" "Filter.truth" sTruM) rfl
  obtain ⟨d12, D12⟩ := c.1.def_ 12 (d := dM "Filter" "masks" "Filter.masks" sMasks) rfl
  obtain ⟨d13, D13⟩ := c.1.def_ 13 (d := dM "Filter" "__contains__" "Filter.__contains__" sConM) rfl
  obtain ⟨d14, D14⟩ := c.1.def_ 14 (d := dM "Filter" "mentions" "Filter.mentions" sMent) rfl
  obtain ⟨d15, D15⟩ := c.1.def_ 15 (d := dM "Filter" "__invert__" "Filter.__invert__" sInv) rfl
  obtain ⟨d16, D16⟩ := c.1.def_ 16 (d := dM "Filter" "__and__" "Filter.__and__" sAnd) rfl
  obtain ⟨d17, D17⟩ := c.1.def_ 17 (d := dM "Filter" "__or__" "Filter.__or__" sOr) rfl
  obtain ⟨d18, D18⟩ := c.1.def_ 18 (d := dM "Filter" "__sub__" "Filter.__sub__" sSub) rfl
  obtain ⟨d19, D19⟩ := c.1.def_ 19 (d := dM "Filter" "__xor__" "Filter.__xor__" sXor) rfl
  obtain ⟨d20, D20⟩ := c.1.def_ 20 (d := dG "_law_source" sSource) rfl
  obtain ⟨d21, D21⟩ := c.1.def_ 21 (d := dG "_law_draw" sDraw) rfl
  obtain ⟨d22, D22⟩ := c.1.def_ 22 (d := dG "_law_of" sOf) rfl
  obtain ⟨d23, D23⟩ := c.1.def_ 23 (d := dG "_law_number" sNumber) rfl
  obtain ⟨d24, D24⟩ := c.1.def_ 24 (d := dG "_law_near" sNear) rfl
  obtain ⟨d25, D25⟩ := c.1.def_ 25 (d := dG "_law_same" sSame) rfl
  obtain ⟨d26, D26⟩ := c.1.def_ 26 (d := dG "_law_word" sWord) rfl
  obtain ⟨d27, D27⟩ := c.1.def_ 27 (d := dG "_law_leaf" sLeaf) rfl
  obtain ⟨d28, D28⟩ := c.1.def_ 28 (d := dG "_law_shape" sShape) rfl
  obtain ⟨d29, D29⟩ := c.1.def_ 29 (d := dG "_law_filter" sFilter) rfl
  obtain ⟨d30, D30⟩ := c.1.def_ 30 (d := dG "_law_truth" sTruth) rfl
  obtain ⟨d31, D31⟩ := c.1.def_ 31 (d := dG "_law_told" sTold) rfl
  obtain ⟨d32, D32⟩ := c.1.def_ 32 (d := dG "law" sLaw) rfl
  have e := hfa.symm.trans (gl (x := "law") (by decide +kernel))
  cases e
  refine ⟨d32, fun s v => FunD.bindsA (ps := ["script"]) D32 (fun _ _ _ _ _ _ us hl => match us, hl with | [_], _ => rfl) s [v] rfl, fun base KB GB => ?_⟩
  have TP : TxtP mg := ⟨fr (by decide +kernel), fr (by decide +kernel), fr (by decide +kernel), fr (by decide +kernel), fr (by decide +kernel), fr (by decide +kernel), fr (by decide +kernel), fr (by decide +kernel), fr (by decide +kernel), He.int_ok X G (f_one c (by unfold fa1; simp))⟩
  have TD : TxtD mg := ⟨fr (by decide +kernel), fr (by decide +kernel), fr (by decide +kernel), fr (by decide +kernel)⟩
  have cI : Cal P w K mg base CX0 "is_integer" 1 ["value"] (spIsInteger K) := ⟨_, _, gl (by decide +kernel), D0.kp, ok_isInteger D0 TP, D0.bindsN fun _ _ _ _ _ _ us hl => match us, hl with | [_], _ => rfl⟩
  have cW : Cal P w K mg base CX0 "is_word" 1 ["value"] (spIsWord K) := ⟨_, _, gl (by decide +kernel), D1.kp, ok_isWord D1 TP, D1.bindsN fun _ _ _ _ _ _ us hl => match us, hl with | [_], _ => rfl⟩
  have TF : TxtF K mg (He.ga K "Filter") := ⟨He.cls_ok (f_one c (by unfold fa1; simp)), He.noat_ok (f_one c (by unfold fa1; simp)), gl (by decide +kernel), fr (by decide +kernel)⟩
  have MF : MakF P w K mg base (He.ga K "Filter") := ⟨TF, _, _, He.mkr_ok (f_one c (by unfold fa1; simp)), ok_fi D8 TF, D8.bindsN fun _ _ _ _ _ _ us hl => match us, hl with | [_, _], _ => rfl⟩
  have TT : TxtTm K mg w (He.ga K "SIGNS") := ⟨gl (by decide +kernel), c.tab 0 (t := (fun K => He.ga K "SIGNS", signs)) rfl, f_sg o6, He.str_ok X G (f_one c (by unfold fa1; simp)), He.str_ok X G (f_one c (by unfold fa1; simp)), He.str_ok X G (f_one c (by unfold fa1; simp)), He.str_ok X G (f_one c (by unfold fa1; simp)), He.str_ok X G (f_one c (by unfold fa1; simp)), He.str_ok X G (f_one c (by unfold fa1; simp)), He.str_ok X G (f_one c (by unfold fa1; simp))⟩
  have cCT : Cal P w K mg base CX0 "_cell_truth" 1 ["sign", "number", "cell"] spCellT := ⟨_, _, gl (by decide +kernel), D7.kp, ok_cellT D7 TT, D7.bindsN fun _ _ _ _ _ _ us hl => match us, hl with | [_, _, _], _ => rfl⟩
  have cJ : Cal P w K mg base CX0 "_joined" 1 ["sign", "one", "other"] spJoined := ⟨_, _, gl (by decide +kernel), D5.kp, ok_joined D5 TT, D5.bindsN fun _ _ _ _ _ _ us hl => match us, hl with | [_, _, _], _ => rfl⟩
  have cT : Cal P w K mg base CX0 "_tested" 2 ["sign", "number", "cells"] spTested := ⟨_, _, gl (by decide +kernel), D6.kp, ok_tested D6 cCT, D6.bindsN fun _ _ _ _ _ _ us hl => match us, hl with | [_, _, _], _ => rfl⟩
  have cWe : Cal P w K mg base CX0 "weigh" 3 ["terms", "grid", "full"] spWeigh := ⟨_, _, gl (by decide +kernel), D4.kp, ok_weigh D4 TT cJ cT, D4.bindsN fun _ _ _ _ _ _ us hl => match us, hl with | [_, _, _], _ => rfl⟩
  have mMe : MetF P w K mg base (He.ga K "Filter") "mentions" 1 ["self"] (spMent (He.ga K "Filter")) := ⟨_, _, He.meth_ok (f_one c (by unfold fa1; simp)), ok_ment D14 TF (fr (by decide +kernel)), D14.bindsN fun _ _ _ _ _ _ us hl => match us, hl with | [_], _ => rfl⟩
  have mMa : MetF P w K mg base (He.ga K "Filter") "masks" 4 ["self", "grid", "full"] (spMasks (He.ga K "Filter")) := ⟨_, _, He.meth_ok (f_one c (by unfold fa1; simp)), ok_masks D12 TF cWe, D12.bindsN fun _ _ _ _ _ _ us hl => match us, hl with | [_, _, _], _ => rfl⟩
  have TTa : TxtT K mg (He.ga K "Table") := ⟨gl (by decide +kernel), Hb.crB_ok o2, Hb.cvS_ok o3⟩
  have FTr := ok_truM (P := P) (w := w) (base := base) D11 TF TTa mMe mMa
  have bTr : Binds K d11 ["self", "key", "cells"] [] := D11.bindsN fun _ _ _ _ _ _ us hl => match us, hl with | [_, _, _], _ => rfl
  have mTr : MetF P w K mg base (He.ga K "Filter") "truth" 5 ["self", "key", "cells"] (spTruM (He.ga K "Filter")) := ⟨_, _, He.meth_ok (f_one c (by unfold fa1; simp)), FTr, bTr⟩
  have MC := He.meth_ok (f_one c (f := .meth "Filter" "__contains__") (by unfold fa1; simp))
  have bC : Binds K d13 ["self", "x"] [] := D13.bindsN fun _ _ _ _ _ _ us hl => match us, hl with | [_, _], _ => rfl
  have cDr := cal_draw (P := P) (w := w) (base := base) TD ⟨_, _, gl (by decide +kernel), D21⟩
  have cOf : Cal P w K mg base CX0 "_law_of" 2 ["source", "some"] (spOf K) := ⟨_, _, gl (by decide +kernel), D22.kp, ok_of D22 TD cDr, D22.bindsN fun _ _ _ _ _ _ us hl => match us, hl with | [_, _], _ => rfl⟩
  have cNu : Cal P w K mg base CX0 "_law_number" 2 ["source"] spNumber := ⟨_, _, gl (by decide +kernel), D23.kp, ok_number D23 TD cDr, D23.bindsN fun _ _ _ _ _ _ us hl => match us, hl with | [_], _ => rfl⟩
  have cSa : Cal P w K mg base CX0 "_law_same" 1 ["told", "due"] spSame := ⟨_, _, gl (by decide +kernel), D25.kp, ok_same D25, D25.bindsN fun _ _ _ _ _ _ us hl => match us, hl with | [_, _], _ => rfl⟩
  have cLe : Cal P w K mg base CX0 "_law_leaf" 3 ["source", "names", "pool"] (spLeaf K) := ⟨_, _, gl (by decide +kernel), D27.kp, ok_leaf D27 cDr cOf, D27.bindsN fun _ _ _ _ _ _ us hl => match us, hl with | [_, _, _], _ => rfl⟩
  have MI := He.meth_ok (f_two c (f := .meth "Filter" "__invert__") (by unfold fa2; simp))
  have MA := He.meth_ok (f_two c (f := .meth "Filter" "__and__") (by unfold fa2; simp))
  have MO := He.meth_ok (f_two c (f := .meth "Filter" "__or__") (by unfold fa2; simp))
  have MS := He.meth_ok (f_two c (f := .meth "Filter" "__sub__") (by unfold fa2; simp))
  have MX := He.meth_ok (f_two c (f := .meth "Filter" "__xor__") (by unfold fa2; simp))
  have oI : InvF P w K mg base (He.ga K "Filter") 3 (spUn (He.ga K "Filter") .not) := ⟨_, _, MI.at_, MI.fn, ok_inv D15 TT MF, D15.bindsN fun _ _ _ _ _ _ us hl => match us, hl with | [_], _ => rfl⟩
  have oA : OpsF P w K mg base (He.ga K "Filter") .BitAnd 3 (spBin (He.ga K "Filter") .and) := ⟨_, _, ⟨o7, MA.at_, MA.fn⟩, ok_and D16 TT MF, D16.bindsN fun _ _ _ _ _ _ us hl => match us, hl with | [_, _], _ => rfl⟩
  have oO : OpsF P w K mg base (He.ga K "Filter") .BitOr 3 (spBin (He.ga K "Filter") .or) := ⟨_, _, ⟨o7, MO.at_, MO.fn⟩, ok_or D17 TT MF, D17.bindsN fun _ _ _ _ _ _ us hl => match us, hl with | [_, _], _ => rfl⟩
  have oX : OpsF P w K mg base (He.ga K "Filter") .BitXor 3 (spBin (He.ga K "Filter") .xor) := ⟨_, _, ⟨o7, MX.at_, MX.fn⟩, ok_xor D19 TT MF, D19.bindsN fun _ _ _ _ _ _ us hl => match us, hl with | [_, _], _ => rfl⟩
  have oS : OpsF P w K mg base (He.ga K "Filter") .Sub 4 (spSub (He.ga K "Filter")) := ⟨_, _, ⟨o7, MS.at_, MS.fn⟩, ok_sub D18 oA oI, D18.bindsN fun _ _ _ _ _ _ us hl => match us, hl with | [_, _], _ => rfl⟩
  have FC : FilC P w K mg base (He.ga K "Filter") := ⟨⟨_, _, gl (by decide +kernel), D2.kp, ok_comp D2 TT TP MF cW cI, D2.bindsN fun _ _ _ _ _ _ us hl => match us, hl with | [_, _, _], _ => rfl⟩, ⟨_, _, gl (by decide +kernel), D3.kp, ok_emp D3 TT MF cW, D3.bindsN fun _ _ _ _ _ _ us hl => match us, hl with | [_], _ => rfl⟩, Hb.crB_ok o1, gl (by decide +kernel),
    ⟨_, _, d9, f_st o4, ok_every D9 TT MF, D9.bindsN fun _ _ _ _ _ _ us hl => match us, hl with | [], _ => rfl⟩,
    ⟨_, _, d10, f_st o5, ok_nothing D10 TT MF, D10.bindsN fun _ _ _ _ _ _ us hl => match us, hl with | [], _ => rfl⟩, oI, oA, oO, oX, oS⟩
  have bFi : Binds K d29 ["shape"] [] := D29.bindsN fun _ _ _ _ _ _ us hl => match us, hl with | [_], _ => rfl
  have bTu : Binds K d30 ["shape", "key", "cells"] [] := D30.bindsN fun _ _ _ _ _ _ us hl => match us, hl with | [_, _, _], _ => rfl
  have cFi : Cal P w K mg base CX0 "_law_filter" 16 ["shape"] (spFil (He.ga K "Filter") 11) := ⟨_, _, gl (by decide +kernel), D29.kp, by_depth 4 (gl (by decide +kernel)) D29.kp bFi (fun d k hk cF => filter_step D29 FC d k hk cF) 11, bFi⟩
  have cTu : Cal P w K mg base CX0 "_law_truth" 18 ["shape", "key", "cells"] (spTruth 13) := ⟨_, _, gl (by decide +kernel), D30.kp, by_depth 4 (gl (by decide +kernel)) D30.kp bTu (fun d k hk cF => by
    obtain ⟨k', rfl⟩ : ∃ k', k = k' + 1 := ⟨k - 1, by omega⟩
    exact truth_step D30 d k' cF) 13, bTu⟩
  have cTo : Cal P w K mg base CX0 "_law_told" 19 ["filters", "shapes", "key", "cells"] (spTold K (He.ga K "Filter")) := ⟨_, _, gl (by decide +kernel), D31.kp, ok_told D31 TF (fr (by decide +kernel)) cSa cTu mTr, D31.bindsN fun _ _ _ _ _ _ us hl => match us, hl with | [_, _, _, _], _ => rfl⟩
  exact ok_law D32 ⟨ ⟨_, _, gl (by decide +kernel), D20.kp, ok_source D20 TD, D20.bindsN fun _ _ _ _ _ _ us hl => match us, hl with | [_, _], _ => rfl⟩, cDr, cOf, cNu,
    ⟨_, _, gl (by decide +kernel), D24.kp, ok_near D24 cDr cNu cOf, D24.bindsN fun _ _ _ _ _ _ us hl => match us, hl with | [_, _], _ => rfl⟩,
    ⟨_, _, gl (by decide +kernel), D26.kp, ok_word D26 TD cDr, D26.bindsN fun _ _ _ _ _ _ us hl => match us, hl with | [_, _], _ => rfl⟩, cSa,
    ⟨_, _, gl (by decide +kernel), D28.kp, ok_shape D28 TD cDr cOf cLe, D28.bindsN fun _ _ _ _ _ _ us hl => match us, hl with | [_, _, _, _], _ => rfl⟩, cFi, cTo, mTr, mMe, oI, oA, oO, oX, oS,
    noIB_ok oA', noIB_ok oO', noIB_ok oX', noIB_ok oS', fr (by decide +kernel), fr (by decide +kernel), fr (by decide +kernel), fr (by decide +kernel), fr (by decide +kernel)⟩ TF
end Lw

open PySem PySem.W PyProof.Rows in
theorem PySem.Challenge.cw_filteredcopies_k14_filters_stay_holds : PySem.Challenge.rw_filteredcopies_k14_filters_stay.Holds := by
  w_on; o_law
  refine HandSHeadRun.head_any (r := Lw.R) (q := Lw.qv) (H := Lw.hk) (ob := Lw.ob) (M := 9000) (loose := Lw.names) (d := HandSHeadRun.topDef Lw.R.prog 52) (kwd := []) Lw.ob_eq
    (by kernel_rfl) (fun s => by kernel_rfl) Lw.run (by kernel_rfl) (by kernel_rfl) (by kernel_rfl) (by rfl) (by first | assumption | decide +kernel) (by decide +kernel) ⟨rfl, rfl, rfl, rfl, rfl, by decide +kernel⟩ ?hw ?hc
  case hw => w_witness2
  case hc =>
    refine L2.walk_ofE (l := PySem.Challenge.rw_filteredcopies_k14_filters_stay) (n := 63) (k := 20) (x := "script") (CX := L2.CX0) rfl (by decide) (by kernel_rfl) ⟨rfl, by decide, by decide⟩ ?F (fun _ _ _ _ z => z)
    intro w mg fa h Y G hmg0
    obtain ⟨K, KX, c⟩ := Y
    have hmg : mg ("law" : PySem.Str) = some (.ref fa) := by
      have e : (HandSHeadRun.topDef Lw.R.prog 52).name = ("law" : PySem.Str) := by kernel_rfl
      rw [← e]
      exact hmg0
    obtain ⟨fd, hb, hF⟩ := Lw.facts (P := (PySem.Challenge.rw_filteredcopies_k14_filters_stay).prog) (w := w) KX G hmg c
    exact ⟨K, fd, Lw.spLaw K, KX, hb, fun H a ns hl _ hS => ⟨a, ns, rfl, hS, hl, fun _ => rfl⟩, hF⟩
