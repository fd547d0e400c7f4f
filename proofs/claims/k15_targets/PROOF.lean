import PyProof.Rows.All
import Wide.All
import OpenK.AllK
import Wide.FinOn
import HandS.Base
import HandS.Call
import HandS.List
import HandS.Comp
import HandS.Dict
import HandS.Iter
import HandS.Text
import HandS.Ends
import HandS.Words
import HandS.WordsList
import HandS.Exc
import HandS.ExcOwn
import HandS.TryOnly
import HandS.ExcInit
import HandS.More
import HandS.Defaults
import HandS.Walk
import KE.KExcIs
import HandS.IsInst
import HandS.ExcIs
import HandS.ExcField
import HandS.Style
import HandS.WordsExc
import HandS.Head0
import HandS.Head1
import HandS.Head2
import HandS.HeadEnd
import HandS.HeadHook1
import HandS.HeadHook2
import HandS.HeadHook3
import HandS.ExcCtx
import HandS.HotCalls
import HandS.ClsMeth
import HandS.Star
import HandS.MakeKwOnly
import HandS.Wide
import HandS.ListItems
import HandS.Finally
import KE.KDictList
import PyProof.FactsAll.dict_3
import HandS.HeadNt
import HandS.Property
import KE.KExcInit
import PyProof.Rows.RuleB_bool
import HandS.RaiseMore
import PyProof.ReprRoads
import HandS.Lambda
import HandS.HeadHook4
import HandS.HeadWalk
import HandS.WordsDict
import KE.KEqNest
import KE.KDictLaw
import HandS.DictComp
import HandS.OwnEq
import PyProof.DictUpdate
import KE.GoesMore
import HandS.TryMany
import HandS.AnyAll
import PySem.Challenge.RW_filteredcopies_k15_targets
set_option Elab.async false
set_option linter.all false
set_option maxRecDepth 100000
set_option maxHeartbeats 4000000
namespace Lw
open PySem PySem.Spec PyProof.Rows L2
abbrev MethD (K : PySem.W.Frag) (x q : Str) (st : Stmt) (f : Addr) (fd : FuncData) : Prop := FunD K x q (defArgs st) (defBody st) (defScope st) [] [] f fd
/-! heaps: all but what stands at a is kept -/
def Keep (a : Addr) (H H' : Hp) : Prop := ∀ b o, b ≠ a → H b = some o → H' b = some o
theorem Keep.refl {a : Addr} (H : Hp) : Keep a H H := fun _ _ _ h => h
theorem Keep.trans {a : Addr} {H H1 H2 : Hp} (x : Keep a H H1) (y : Keep a H1 H2) : Keep a H H2 := fun b o n h => y b o n (x b o n h)
theorem Keep.of_same {a : Addr} {H H' : Hp} (s : Same H H') : Keep a H H' := fun b o _ h => s b o h
theorem Keep.upd {a : Addr} {H H' : Hp} {o : HO} (k : Keep a H H') : Keep a H (upd H' a o) := fun b u n h => by
  rw [upd_ne n]
  exact k b u n h
theorem Keep.new {a p : Addr} {H H' : Hp} {o : HO} (k : Keep a H H') (hp : H' p = none) : Keep a H (L2.upd H' p o) := fun b u n h => by
  rw [upd_ne (ne_of_none (k b u n h) hp)]
  exact k b u n h
theorem Keep.seq {K : PySem.W.Frag} {a b : Addr} {H H' : Hp} {xs : List V} (k : Keep a H H') (n : b ≠ a) (h : SqL K H b xs) : SqL K H' b xs := by
  rcases h with (h | ⟨o, h⟩) | h
  · exact .inl (.inl (k _ _ n h))
  · exact .inl (.inr ⟨o, k _ _ n h⟩)
  · exact .inr h
theorem Keep.seqT {K : PySem.W.Frag} {a b : Addr} {H H' : Hp} {xs : List V} (k : Keep a H H') (n : b ≠ a) (h : SqT K H b xs) : SqT K H' b xs := by
  rcases h with (h | ⟨o, h⟩) | h
  · exact .inl (.inl (k _ _ n h))
  · exact .inl (.inr ⟨o, k _ _ n h⟩)
  · exact .inr h
/-- the drawing's source: three numbers; n bounds how often was drawn -/
def Src (H : Hp) (a : Addr) (n : Nat) : Prop := ∃ d s t : Int, H a = some (.lst [.int d, .int s, .int t]) ∧ 0 ≤ d ∧ 0 ≤ s ∧ s < 9223372036854775808 ∧ 0 ≤ t ∧ t ≤ (n : Int)
theorem Src.mono {H : Hp} {a : Addr} {n m : Nat} (h : Src H a n) (l : n ≤ m) : Src H a m := by
  obtain ⟨d, s, t, h1, h2, h3, h4, h5, h6⟩ := h
  exact ⟨d, s, t, h1, h2, h3, h4, h5, by omega⟩
theorem Src.new {H : Hp} {a p : Addr} {n : Nat} {o : HO} (h : Src H a n) (hp : H p = none) : Src (upd H p o) a n := by
  obtain ⟨d, s, t, h1, h2⟩ := h
  exact ⟨d, s, t, by rw [upd_ne (ne_of_none h1 hp)]; exact h1, h2⟩
theorem Src.ne {H : Hp} {a p : Addr} {n : Nat} (h : Src H a n) (hp : H p = none) : p ≠ a := by
  obtain ⟨d, s, t, h1, _⟩ := h
  exact (ne_of_none h1 hp).symm
abbrev big : Nat := 1000000000
/-! steps: a statement's reading by what its expression comes to -/
section
variable {te : TE} {c : TT} {u v t1 t2 : TS} {D : Ends} {σ : L2.St} {H : Hp} {i : Nat}
theorem sq_set (P : V → Hp → Prop) (h : ∀ Q : VK, (∀ x H', P x H' → Q x H') → te σ H Q) (k : ∀ x H', P x H' → u D (σ.set i (some x)) H') : tSeq (tAsg te (gName i)) u D σ H := h _ k
theorem s1_set (P : V → Hp → Prop) (h : ∀ Q : VK, (∀ x H', P x H' → Q x H') → te σ H Q) (k : ∀ x H', P x H' → D.nx (σ.set i (some x)) H') : (tAsg te (gName i)) D σ H := h _ k
theorem sq_par {j : Nat} {ta : TA} (P : V → V → Hp → Prop) (h : ∀ Q : List V → Hp → Prop, (∀ x y H', P x y H' → Q [x, y] H') → ta σ H Q) (k : ∀ x y H', P x y H' → u D ((σ.set i (some x)).set j (some y)) H') : tSeq (tPar i j ta) u D σ H := h _ fun x y H' p => ⟨x, y, rfl, k x y H' p⟩
theorem sq_do (P : V → Hp → Prop) (h : ∀ Q : VK, (∀ x H', P x H' → Q x H') → te σ H Q) (k : ∀ x H', P x H' → u D σ H') : tSeq (tDrop te) u D σ H := h _ k
theorem sq_if (P : Bool → Hp → Prop) (h : ∀ Q : Bool → Hp → Prop, (∀ b H', P b H' → Q b H') → c σ H Q) (kt : ∀ H', P true H' → t1 { D with nx := u D } σ H') (kf : ∀ H', P false H' → t2 { D with nx := u D } σ H') : tSeq (tIfS c t1 t2) u D σ H :=
  h _ fun b H' p => by
    cases b with
    | true => rw [if_pos rfl]; exact kt H' p
    | false => rw [if_neg Bool.false_ne_true]; exact kf H' p
theorem sq_if1 (P : Bool → Hp → Prop) (h : ∀ Q : Bool → Hp → Prop, (∀ b H', P b H' → Q b H') → c σ H Q) (kt : ∀ H', P true H' → t1 { D with nx := u D } σ H') (kf : ∀ H', P false H' → u D σ H') : tSeq (tIfS c t1 tNext) u D σ H := sq_if P h kt kf
theorem s1_if (P : Bool → Hp → Prop) (h : ∀ Q : Bool → Hp → Prop, (∀ b H', P b H' → Q b H') → c σ H Q) (kt : ∀ H', P true H' → t1 D σ H') (kf : ∀ H', P false H' → t2 D σ H') : (tIfS c t1 t2) D σ H :=
  h _ fun b H' p => by
    cases b with
    | true => rw [if_pos rfl]; exact kt H' p
    | false => rw [if_neg Bool.false_ne_true]; exact kf H' p
theorem s1_ret (P : V → Hp → Prop) (h : ∀ Q : VK, (∀ x H', P x H' → Q x H') → te σ H Q) (k : ∀ x H', P x H' → D.rt x H') : tRet te D σ H := h _ k
end
/-! promises -/
def spSource (K : PySem.W.Frag) : Sp := fun vs H Q _ => ∃ (a : Addr) (ns : List Int) (i : Int), vs = [.ref a, .int i] ∧ SqL K H a (ns.map V.int) ∧ ns.length ≤ 1000 ∧ 0 ≤ i ∧ i ≤ 1000 ∧
  ∀ p H', H p = none → Same H H' → Src H' p 0 → Q (.ref p) H'
def spDraw : Sp := fun vs H Q _ => ∃ (a : Addr) (n : Nat) (m : Int), vs = [.ref a, .int m] ∧ Src H a n ∧ n ≤ 1000000000 ∧ 0 < m ∧ m ≤ 1000000000 ∧
  ∀ H' i, Keep a H H' → Src H' a (n + 1) → 0 ≤ i → i < m → Q (.int i) H'
def spOf (K : PySem.W.Frag) : Sp := fun vs H Q _ => ∃ (a b : Addr) (n : Nat) (xs : List V), vs = [.ref a, .ref b] ∧ Src H a n ∧ n ≤ 1000000000 ∧ b ≠ a ∧ SqL K H b xs ∧ xs ≠ [] ∧ xs.length ≤ 100000 ∧
  ∀ H' x, Keep a H H' → Src H' a (n + 1) → x ∈ xs → Q x H'
def spNumber : Sp := fun vs H Q _ => ∃ (a : Addr) (n : Nat), vs = [.ref a] ∧ Src H a n ∧ n ≤ 900000000 ∧
  ∀ H' i, Keep a H H' → Src H' a (n + 8) → Q (.int i) H'
structure TxtD (mg : Str → Option Value) : Prop where
  len : mg "len" = none
  abs : mg "abs" = none
  int : mg "int" = none
  range : mg "range" = none
abbrev FnP (K : PySem.W.Frag) (x : Str) (st : Stmt) (f : Addr) (fd : FuncData) : Prop := FunD K x x (defArgs st) (defBody st) (defScope st) [] [] f fd
section
variable {P : Program} {w : World} {K : PySem.W.Frag} {mg : Str → Option Value} {base : Heap}
theorem bool_ite {c : Prop} [Decidable c] {A B : Prop} (h1 : c → A) (h2 : ¬ c → B) : if decide c = true then A else B := by
  by_cases h : c
  · rw [decide_eq_true h, if_pos rfl]; exact h1 h
  · rw [decide_eq_false h, if_neg Bool.false_ne_true]; exact h2 h
theorem atI_get {α : Type} {xs : List α} {i : Int} (h0 : 0 ≤ i) (h1 : i < xs.length) : ∃ x, atI xs i = some x ∧ x ∈ xs := by
  have e : i.toNat < xs.length := by omega
  refine ⟨xs[i.toNat], ?_, List.getElem_mem e⟩
  unfold atI ixN
  rw [if_pos h0, if_pos h1]
  simp [e]
theorem fmod_src (x : Int) : 0 ≤ x.fmod 2305843009213693951 ∧ x.fmod 2305843009213693951 < 2305843009213693951 :=
  ⟨Int.fmod_nonneg_of_pos x (by decide), Int.fmod_lt_of_pos x (by decide)⟩

/-! a def of the top, called by its name -/
def DefIs (K : PySem.W.Frag) (mg : Str → Option Value) (x : Str) (st : Stmt) : Prop := ∃ f fd, mg x = some (.ref f) ∧ FnP K x st f fd
structure Cal (P : Program) (w : World) (K : PySem.W.Frag) (mg : Str → Option Value) (base : Heap) (CX : CXT) (x : Str) (k : Nat) (ps : List Str) (sp : Sp) : Prop where
  ex : ∃ f fd, mg x = some (.ref f) ∧ PySem.W.keepIn K (.ref f) = true ∧ FnOk P w K mg base CX k f fd ps sp ∧ Binds K fd ps []
end
section
variable {X : Cx} {x : Str} {p pos : Pos} {e : Expr} {es : List Expr} {t : TA} {k : Nat} {ps : List Str} {sp : Sp}
theorem pe_cal (c : Cal X.prog X.w X.K X.mg X.base CX0 x k ps sp) (hr : Room k X.A) (ha : PA X (e :: es) t) (hg : Gl X x := by rfl) (hdb : (x == ("__debug__" : Str)) = false := by decide)
    (he : starEach (e :: es) X.env = (false, eval e X.env) :: starEach es X.env := by rfl) (hpl : (backTo pos (starEach es X.env)).any (·.1) = false := by rfl) :
    PE X (.Call (.Name x p) (e :: es) [] pos) (tCall sp [] E0 t) := by
  obtain ⟨f, fd, hm, hk, F, b⟩ := c.ex
  exact pe_call F hr hg hm hk b .nil pass0 ha hdb he hpl
end
section
variable {P : Program} {w : World} {K : PySem.W.Frag} {mg : Str → Option Value} {base : Heap}
end
/-! words -/
def IsWord (z : Str) : Prop := 1 ≤ z.length ∧ z.length ≤ 8 ∧ ∀ c ∈ z.cps.toList, 97 ≤ c ∧ c ≤ 122
def abc : List Nat := [97, 98, 99, 100, 101, 102, 103, 104, 105, 106, 107, 108, 109, 110, 111, 112, 113, 114, 115, 116, 117, 118, 119, 120, 121, 122]
def sign (c : Nat) : Str := ⟨#[c]⟩
abbrev letters : Str := "abcdefghijklmnopqrstuvwxyz"
theorem letters_eq : letters = ⟨abc.toArray⟩ := by decide +kernel
theorem abc_le {c : Nat} (h : c ∈ abc) : 97 ≤ c ∧ c ≤ 122 := by
  have h2 : ∀ c ∈ abc, 97 ≤ c ∧ c ≤ 122 := by decide
  exact h2 c h
theorem tl_sign (c : Nat) : (sign c).cps.toList = [c] := rfl
theorem joinL_flat : ∀ l : List (List Nat), TL.joinL [] l = l.flatten
  | [] => rfl
  | [p] => by simp [TL.joinL]
  | p :: q :: r => by
    show p ++ ([] ++ TL.joinL [] (q :: r)) = _
    rw [joinL_flat (q :: r)]
    simp
theorem join_signs (e : Str) (he : e.cps = #[]) (cs : List Nat) : (Txt.join e (cs.map sign)).cps.toList = cs := by
  rw [TL.join_eq]
  have h : (Str.join e (cs.map sign)).cps.toList = TL.joinL e.cps.toList ((cs.map sign).map fun z => z.cps.toList) := TL.tl_join e (cs.map sign)
  rw [h, he]
  show TL.joinL [] _ = _
  rw [joinL_flat, List.map_map]
  clear h
  induction cs with
  | nil => rfl
  | cons c r ih =>
    rw [List.map_cons, List.flatten_cons, ih]
    rfl
theorem nodup_le : ∀ {l ts : List Str}, l.Nodup → (∀ x ∈ l, x ∈ ts) → l.length ≤ ts.length
  | [], _, _, _ => Nat.zero_le _
  | x :: l, ts, hn, hs => by
    have hx : x ∈ ts := hs x List.mem_cons_self
    have hn2 := List.nodup_cons.mp hn
    have ih := nodup_le (l := l) (ts := ts.erase x) hn2.2 fun y hy => by
      have ne : y ≠ x := fun e => hn2.1 (e ▸ hy)
      exact (List.mem_erase_of_ne ne).mpr (hs y (List.mem_cons_of_mem _ hy))
    rw [List.length_erase_of_mem hx] at ih
    have pos : 0 < ts.length := List.length_pos_of_mem hx
    simp only [List.length_cons]
    omega
def cand (w : Str) (c : Nat) : Str := cutS (sign c ++ w) none (some 8)
theorem tl_app (a b : Str) : (a ++ b).cps.toList = a.cps.toList ++ b.cps.toList := by
  rw [PySem.Str.cps_append, Array.toList_append]
theorem len_tl (a : Str) : a.length = a.cps.toList.length := by simp [Str.length]
theorem cand_tl (w : Str) (c : Nat) : (cand w c).cps.toList = (c :: w.cps.toList).take 8 := by
  unfold cand cutS
  have e : (sign c ++ w).cps.toList = c :: w.cps.toList := tl_app _ _
  have l : (sign c ++ w).length = w.cps.toList.length + 1 := by rw [len_tl, e]; rfl
  rw [e, l]
  have h8 : HT.sIx (w.cps.toList.length + 1) (w.cps.toList.length + 1) (some 8) = min 8 (w.cps.toList.length + 1) := HT.sIx_nat _ _ 8
  rw [h8]
  show (List.take (min 8 (w.cps.toList.length + 1) - 0) (List.drop 0 (c :: w.cps.toList))) = _
  rw [Nat.sub_zero, List.drop_zero]
  have : (c :: w.cps.toList).length = w.cps.toList.length + 1 := rfl
  rw [← this, ← List.take_eq_take_min]
theorem cand_word {w : Str} {c : Nat} (h : IsWord w) (hc : c ∈ abc) : IsWord (cand w c) := by
  have e := cand_tl w c
  obtain ⟨h1, h2, h3⟩ := h
  rw [len_tl] at h1 h2
  refine ⟨?_, ?_, fun d hd => ?_⟩
  · rw [len_tl, e]; simp
  · rw [len_tl, e]; simp; omega
  · rw [e] at hd
    rcases List.mem_cons.mp (List.mem_of_mem_take hd) with q | q
    · rw [q]; exact abc_le hc
    · exact h3 d q
theorem cand_inj {w : Str} {c d : Nat} (h : cand w c = cand w d) : c = d := by
  have e : (cand w c).cps.toList = (cand w d).cps.toList := by rw [h]
  rw [cand_tl, cand_tl] at e
  simpa using e
theorem free_some (w : Str) (ts : List Str) (h : ts.length ≤ 25) : abc.filter (fun c => !decide (cand w c ∈ ts)) ≠ [] := by
  intro e
  have ha : ∀ c ∈ abc, cand w c ∈ ts := fun c hc => by
    have := List.filter_eq_nil_iff.mp e c hc
    simpa using this
  have nd : (abc.map (cand w)).Nodup := by
    have h0 : abc.Nodup := by decide
    exact List.Pairwise.map _ (fun a b ne q => ne (cand_inj q)) h0
  have l := nodup_le nd (ts := ts) (fun x hx => by
    obtain ⟨c, hc, rfl⟩ := List.mem_map.mp hx
    exact ha c hc)
  rw [List.length_map] at l
  have : abc.length = 26 := rfl
  omega
theorem inV_str (w : Str) (ts : List Str) : inV (.str w) (ts.map V.str) = decide (w ∈ ts) := by
  unfold inV
  rw [List.any_map]
  apply Bool.eq_iff_iff.mpr
  simp only [List.any_eq_true, Function.comp, decide_eq_true_eq]
  constructor
  · rintro ⟨y, hy, e⟩
    have e2 : (y == w) = true := e
    exact (eq_of_beq e2) ▸ hy
  · intro h
    exact ⟨w, h, beq_self_eq_true w⟩
theorem flat_strs (ts : List Str) : (ts.map V.str).all flatV = true := by
  rw [List.all_map]
  exact List.all_eq_true.mpr fun _ _ => rfl
abbrev nWord : List Str := ["source", "taken", "letters", "word", "free", "turn", "letter"]
def spWord (K : PySem.W.Frag) : Sp := fun vs H Q _ => ∃ (a b : Addr) (n : Nat) (ts : List Str), vs = [.ref a, .ref b] ∧ Src H a n ∧ n ≤ 900000000 ∧ b ≠ a ∧ SqL K H b (ts.map V.str) ∧ ts.length ≤ 25 ∧
  ∀ H' w, Keep a H H' → Src H' a (n + 10) → IsWord w → w ∉ ts → Q (.str w) H'
section
variable {P : Program} {w : World} {K : PySem.W.Frag} {mg : Str → Option Value} {base : Heap}
theorem str_notmem {z : Str} {ts : List Str} {A B : Prop} (h1 : z ∉ ts → A) (h2 : z ∈ ts → B) : if (if true = true then !inV (.str z) (ts.map V.str) else inV (.str z) (ts.map V.str)) = true then A else B := by
  rw [if_pos rfl, inV_str]
  by_cases h : z ∈ ts
  · rw [decide_eq_true h, Bool.not_true, if_neg Bool.false_ne_true]; exact h2 h
  · rw [decide_eq_false h, Bool.not_false, if_pos rfl]; exact h1 h
theorem letters_cps : letters.cps = abc.toArray := by rw [letters_eq]
theorem abc_at {i : Int} (h0 : 0 ≤ i) (h1 : i < 26) : ∃ c, atI letters.cps.toList i = some c ∧ c ∈ abc := by
  rw [letters_cps]
  exact atI_get (xs := abc) h0 (by show i < 26; exact h1)
end
/-! isinstance of a caught error that has its own dict -/
def rIsED (K : PySem.W.Frag) (cls : Value) (d : Option Addr) (a : Addr) : List V → Hp → VK → Prop := fun xs H Q =>
  ∃ (D dd : Addr) (c : V) (cv : Value) (b : Bool) (fs : List (Str × V)), cls = .ref D ∧ d = some dd ∧ ExcC K D ∧ xs = [.ref a, c] ∧ (∀ u, RelV c u → u = cv) ∧ H dd = some (.xd fs) ∧ PySem.W.kitOne K (.ref D) cv = some b ∧ Q (.bl b) H
theorem call_isED {X : Cx} {a : Addr} {cls : Value} {d : Option Addr} {oe : Obj} {pn : List (Addr × Obj)} (hz : Zc cls d oe) (hf : ∃ vs, oe.data = .fields vs) :
    CallR (X.suite a ((a, oe) :: pn)) (.builtin "isinstance") (rIsED X.K cls d a) := by
  intro pins s σ H xs us Q I r h
  obtain ⟨D, dd, c, cv, b, fs, rfl, rfl, C, rfl, hcv, hdd, e, q⟩ := h
  obtain ⟨u1, u2, rfl, r1, r2⟩ := vals2 r
  obtain rfl : u1 = Value.ref a := r1
  obtain rfl := hcv _ r2
  have hp := (I.pin (a, oe) (List.mem_append_left _ List.mem_cons_self)).1
  obtain ⟨mA, hns, _⟩ := (show ObjOk X.prog X.w H s.heap dd (.xd fs) from I.hok dd _ hdd)
  obtain ⟨od, ho, _⟩ := lookIn_ns hns
  obtain ⟨vs, hv⟩ := hf
  have J : PySem.W.InstAt s.heap a oe D (some od) := ⟨hp, hz.1, by unfold PySem.W.notCls; rw [hv] <;> rfl, by rw [hz.2]; exact ho⟩
  have hc : (PySem.W.clsIn X.K D).isSome = true := by
    have z := C.hd
    unfold PySem.W.hasDictIn at z
    cases q : PySem.W.clsIn X.K D with
    | none => rw [q] at z; cases z
    | some y => rfl
  exact PySem.W.kia_one (PySem.W.kitx_exc hc C.hg C.hk C.hs C.ha C.hn C.ht C.hm) I.kIn J e (fun z => nomatch z) fun tk => ⟨.bl b, H, I.tok tk, rfl, q⟩
/-! f(k = v, ..), nothing by position, what it raises wished for at the caller's slots -/
def tCallKS (m : Nat) (sp : Sp) (gV : List V → List V → List V) (E : L2.St → XK) (tk : TA) : TE := fun σ H Q => tk σ H fun zs H2 => zs.length = m ∧ sp (gV [] zs) H2 Q (E σ)
section
variable {X : Cx} {CX : CXT} {k : Nat} {f : Addr} {fd : FuncData} {ps ks : List Str} {sp : Sp} {E : L2.St → XK} {x : Str} {p pos : Pos} {kws : List Keyword} {tk : TA} {g : List Value → List Value → List Value} {gV : List V → List V → List V}
theorem pe_callKS (F : FnOk X.prog X.w X.K X.mg X.base CX k f fd ps sp) (hr : Room k X.A) (hm : X.mg x = some (.ref f)) (hk : PySem.W.keepIn X.K (.ref f) = true) (hb : KBn X.K fd ps 0 ks g gV) (hx : ∀ σ, PassesAt CX X σ (E σ)) (hkw : PK X kws tk)
    (hg : Gl X x := by rfl) (hall : (backToKw pos (keywordEach kws X.env)).all (·.1.isSome) = true := by rfl) (hks : (backToKw pos (keywordEach kws X.env)).filterMap (·.1) = ks := by rfl) (hdb : (x == ("__debug__" : Str)) = false := by decide)
    (hpl : ((backTo pos (starEach [] X.env)).any (·.1) || (backToKw pos (keywordEach kws X.env)).any (·.1.isNone)) = false := by rfl) :
    PE X (.Call (.Name x p) [] kws pos) (tCallKS ks.length sp gV E tk) := by
  refine ⟨fun pins s σ H Q I h => wpAny_Call_Name_kw (ld_glob I hg hm ?_ hdb)⟩
  refine PySem.W.callWith_KW0 (h₀ := X.base) I.ok.mod.kin hk hall (thn (hkw.run pos pins s σ H _ I h) fun ws s2 ⟨zs, H2, I2, rz, l2, q2⟩ => ⟨I2.kIn, ?_⟩) hpl
  rw [hks]
  have r2 := hb.rel .nil rz
  have bt := hb.to s2 [] ws I2.kIn rfl (rz.length.symm.trans l2)
  refine wpAny_call (codeAny_mono (F.run X.A X.stack s2 H2 ⟨[], ks.zip ws⟩ (g [] ws) (gV [] zs) Q (E σ) hr I2.env0 bt r2 q2) fun r s' hq => ?_)
  match r, hq with
  | .error e, hq => exact hx σ pins H2 s2 e s' I2 hq
  | .ok (.ret u), hq => exact I2.after hq
  | .ok .next, hq => exact hq.elim
  | .ok .brk, hq => exact hq.elim
  | .ok .cont, hq => exact hq.elim
end
structure TxtP (mg : Str → Option Value) : Prop where
  isi : mg "isinstance" = none
  int : mg "int" = none
  bool : mg "bool" = none
  str : mg "str" = none
  list : mg "list" = none
  tuple : mg "tuple" = none
  dict : mg "dict" = none
  len : mg "len" = none
  all : mg "all" = none
  longest : ∃ t, mg "LONGEST_WORD" = some (.int 8 t)
/-- a value of a built-in type t -/
def IsTy (K : PySem.W.Frag) (H : Hp) (v : V) (t : String) : Prop := TyX K H v (.type t)
def NotTy (K : PySem.W.Frag) (H : Hp) (v : V) (c : String) : Prop := ∃ t, TyX K H v (.type t) ∧ kitB t c = some false
def isWordB (z : Str) : Bool := decide (1 ≤ z.length) && (decide (z.length ≤ 8) && z.cps.toList.all fun c => decide (97 ≤ c) && decide (c ≤ 122))
theorem isWordB_iff (z : Str) : isWordB z = true ↔ IsWord z := by
  unfold isWordB IsWord
  simp only [Bool.and_eq_true, decide_eq_true_eq, List.all_eq_true]
theorem isWordB_true {z : Str} (h : IsWord z) : isWordB z = true := (isWordB_iff z).mpr h
theorem isWordB_false {z : Str} (h : ¬ IsWord z) : isWordB z = false := by
  cases e : isWordB z with
  | false => rfl
  | true => exact absurd ((isWordB_iff z).mp e) h
def spIsInteger (K : PySem.W.Frag) : Sp := fun vs H Q _ => ∃ (v : V) (b : Bool), vs = [v] ∧
  ((b = true ∧ ∃ i, v = .int i) ∨ (b = false ∧ ((∃ c, v = .bl c) ∨ NotTy K H v "int"))) ∧ Q (.bl b) H
def spIsWord (K : PySem.W.Frag) : Sp := fun vs H Q _ => ∃ (v : V) (b : Bool), vs = [v] ∧
  ((∃ z, v = .str z ∧ z.length ≤ 1000 ∧ b = isWordB z) ∨ (b = false ∧ NotTy K H v "str")) ∧ ∀ H', Same H H' → Q (.bl b) H'
def spCopied (K : PySem.W.Frag) : Sp := fun vs H Q _ => ∃ (v : V), vs = [v] ∧ NotTy K H v "list" ∧ NotTy K H v "tuple" ∧ NotTy K H v "dict" ∧ Q v H
section
variable {P : Program} {w : World} {K : PySem.W.Frag} {mg : Str → Option Value} {base : Heap}
theorem ty_int {H : Hp} (i : Int) : TyX K H (.int i) (.type "int") := .base (.int i)
theorem ty_bl {H : Hp} (i : Bool) : TyX K H (.bl i) (.type "bool") := .base (.bl i)
theorem ty_str {H : Hp} (i : Str) : TyX K H (.str i) (.type "str") := .base (.str i)
theorem ty_non {H : Hp} : TyX K H .non (.type "NoneType") := .base .non
theorem lt_sign (c d : Nat) : decide (([c] : List Nat) < [d]) = decide (c < d) := by
  have : (([c] : List Nat) < [d]) ↔ c < d := by
    rw [List.cons_lt_cons_iff]
    simp
  simp only [this]
end
theorem exc_end {H : Hp} {a C d : Addr} {fs : List (Str × V)} (na : H a = none) (nd : upd H a (exo a C none) d = none) (da : d ≠ a) :
    H d = none ∧ Same H (upd (del (upd (upd (upd H a (exo a C none)) d (exd d fs)) a (exo a C (some d))) a) d (.xd fs)) := by
  have n2 : H d = none := by rw [upd_ne da] at nd; exact nd
  refine ⟨n2, fun b o h => ?_⟩
  rw [upd_ne (ne_of_none h n2), del_ne (ne_of_none h na), upd_ne (ne_of_none h na), upd_ne (ne_of_none h n2), upd_ne (ne_of_none h na)]
  exact h
theorem Same.new {H H1 : Hp} {p : Addr} {o : HO} (s : Same H H1) (h : H1 p = none) : Same H (upd H1 p o) := fun b u e => by
  rw [upd_ne (ne_of_none (s b u e) h)]
  exact s b u e
section
variable {P : Program} {w : World} {K : PySem.W.Frag} {mg : Str → Option Value} {base : Heap}
theorem nt_str {H : Hp} (z : Str) : NotTy K H (.str z) "list" ∧ NotTy K H (.str z) "tuple" ∧ NotTy K H (.str z) "dict" :=
  ⟨⟨_, ty_str z, by decide +kernel⟩, ⟨_, ty_str z, by decide +kernel⟩, ⟨_, ty_str z, by decide +kernel⟩⟩
theorem NotTy.same {H H1 : Hp} {v : V} {c : String} (s : Same H H1) (h : NotTy K H v c) : NotTy K H1 v c := by
  obtain ⟨t, ht, k⟩ := h
  refine ⟨t, ?_, k⟩
  cases ht with
  | base b => cases b with
    | non => exact .base .non
    | bl y => exact .base (.bl y)
    | int i => exact .base (.int i)
    | str y => exact .base (.str y)
    | flt y => exact .base (.flt y)
    | lst e => exact .base (.lst (s _ _ e))
    | frz e => exact .base (.frz (s _ _ e))
    | tup e => exact .base (.tup (s _ _ e))
    | dK e => exact .base (.dK (s _ _ e))
    | dT e => exact .base (.dT (s _ _ e))
  | byt b => exact .byt b
  | set e => exact .set (s _ _ e)
  | kList e c => exact .kList e c
  | kTuple e c => exact .kTuple e c
  | kDict e c => exact .kDict e c
  | fTuple e => exact .fTuple (s _ _ e)
  | fDict e => exact .fDict (s _ _ e)
theorem not_nt_str {H : Hp} {z : Str} (h : NotTy K H (.str z) "str") : False := by
  obtain ⟨t, ht, k⟩ := h
  generalize hv : V.str z = v at ht
  generalize hu : Value.type t = u at ht
  cases ht with
  | base b =>
    cases b with
    | str y =>
      cases hu
      exact absurd k (by decide +kernel)
    | _ => cases hv
  | _ => cases hv
end
def oddStrs : List Str := ["", "abcdefghi", "A", "aB", "a1", "a b", " a", "a_", "-"]
inductive Odd (a : Addr) (H : Hp) : V → Prop where
  | str {z : Str} (h : z ∈ oddStrs) : Odd a H (.str z)
  | non : Odd a H .non
  | int (i : Int) : Odd a H (.int i)
  | bl (b : Bool) : Odd a H (.bl b)
  | tup {p : Addr} {xs : List V} (n : p ≠ a) (h : H p = some (.tup xs)) (e : xs = [] ∨ xs = [.str "a"]) : Odd a H (.ref p)
  | lst {p : Addr} {xs : List V} (n : p ≠ a) (h : H p = some (.lst xs)) (e : xs = [] ∨ xs = [.str "a"]) : Odd a H (.ref p)
  | dic {p : Addr} (n : p ≠ a) (h : H p = some (.dK [(.inr "a", .str "b")])) : Odd a H (.ref p)
theorem Odd.keep {a : Addr} {H H' : Hp} {v : V} (k : Keep a H H') (h : Odd a H v) : Odd a H' v := by
  cases h with
  | str h => exact .str h
  | non => exact .non
  | int i => exact .int i
  | bl b => exact .bl b
  | tup n h e => exact .tup n (k _ _ n h) e
  | lst n h e => exact .lst n (k _ _ n h) e
  | dic n h => exact .dic n (k _ _ n h)
theorem odd_notword {K : PySem.W.Frag} {a : Addr} {H : Hp} {v : V} (h : Odd a H v) : (∃ z, v = .str z ∧ z.length ≤ 1000 ∧ ¬ IsWord z) ∨ NotTy K H v "str" := by
  cases h with
  | @str z h =>
    have e : ∀ z ∈ oddStrs, (decide (z.length ≤ 1000) && !isWordB z) = true := by decide +kernel
    have e2 := e z h
    simp only [Bool.and_eq_true, decide_eq_true_eq, Bool.not_eq_true'] at e2
    exact .inl ⟨z, rfl, e2.1, fun hw => by rw [isWordB_true hw] at e2; cases e2.2⟩
  | non => exact .inr ⟨_, ty_non, by decide +kernel⟩
  | int i => exact .inr ⟨_, ty_int i, by decide +kernel⟩
  | bl b => exact .inr ⟨_, ty_bl b, by decide +kernel⟩
  | tup n h e => exact .inr ⟨_, .base (.tup h), by decide +kernel⟩
  | lst n h e => exact .inr ⟨_, .base (.lst h), by decide +kernel⟩
  | dic n h => exact .inr ⟨_, .base (.dK h), by decide +kernel⟩
theorem same_new2 {H : Hp} {p : Addr} {o u : HO} (n : H p = none) : Same H (upd (upd H p o) p u) := fun b x h => by
  rw [upd_ne (ne_of_none h n), upd_ne (ne_of_none h n)]
  exact h
def spOdd : Sp := fun vs H Q _ => ∃ (a : Addr) (n : Nat), vs = [.ref a] ∧ Src H a n ∧ n ≤ 900000000 ∧ ∀ H' v, Keep a H H' → Src H' a (n + 1) → Odd a H' v → Q v H'
theorem Src.same {H H1 : Hp} {a : Addr} {n : Nat} (s : Same H H1) (h : Src H a n) : Src H1 a n := by
  obtain ⟨d, x, t, h1, h2⟩ := h
  exact ⟨d, x, t, s _ _ h1, h2⟩
section
variable {P : Program} {w : World} {K : PySem.W.Frag} {mg : Str → Option Value} {base : Heap}
end
theorem kb_of {K : PySem.W.Frag} {x qual : Str} {params : Arguments} {body : List Stmt} {scope : Scope} {kws : List (Str × V)} {f : Addr} {fd : FuncData} {ps : List Str} (F : FunD K x qual params body scope [] kws f fd)
    (h : ∀ (kV doc pm : Value) (an : Option Addr) (cdv ct : Value) (ws : List Value), ws.length = ps.length → bindArgs (PySem.W.fnOf x qual params body scope .none kV doc pm an cdv ct) ⟨[], ps.zip ws⟩ = pure (ps.zip ws)) : KBn K fd ps 0 ps (fun _ ws => ws) (fun _ zs => zs) := by
  obtain ⟨oc, od, dV, kV, doc, pm, an, cdv, ct, osl, rfl, lk, hcd, hD, hK⟩ := F.ex
  rcases hD with ⟨_, rfl⟩ | ⟨e, _⟩
  · exact ⟨fun s us ws _ l1 l2 => by
      obtain rfl : us = [] := List.length_eq_zero_iff.mp l1
      exact .of_eq (h kV doc pm an cdv ct ws l2), fun _ r => r⟩
  · exact absurd rfl e
end Lw
namespace Hk
open PySem PySem.Spec PyProof.Rows L2
/-! a Hook: facts, defs, tables, one Bool more -/
abbrev Al : Type := He.AlT × Bool
def obG (n : Nat) (fa : List He.Fa) (fn : List He.DefD) (ts : List He.Tab) (own : PySem.W.Frag → Bool) (g : Addr → Option Obj) : Al := (He.obsTG n fa fn ts g, own (He.frG g (He.asD g n)))
def Says (fa : List He.Fa) (fn : List He.DefD) (ts : List He.Tab) (own : PySem.W.Frag → Bool) (w : World) (K : PySem.W.Frag) : Prop := He.SaysT fa fn ts w K ∧ own K = true
def hook (n : Nat) (fa : List He.Fa) (fn : List He.DefD) (ts : List He.Tab) (own : PySem.W.Frag → Bool) : PySem.W.Hook where
  α := Al
  obs := fun s => obG n fa fn ts own s.heap.get?
  val := fun w => (He.valT fn ts w, true)
  says := fun w h => ∃ K : PySem.W.Frag, K.In h ∧ Says fa fn ts own w K
  of := fun _ _ e => ⟨_, He.frG_in, congrArg Prod.fst e, congrArg Prod.snd e⟩
  keeps := fun _ _ _ ⟨K, hK, c⟩ k => ⟨K, PySem.W.Frag.In.keeps hK k, c⟩
theorem obG_eq {n : Nat} {fa : List He.Fa} {fn : List He.DefD} {ts : List He.Tab} {own : PySem.W.Frag → Bool} {g : Addr → Option Obj} {s : Shared} (h : ∀ a, g a = s.heap.get? a) : obG n fa fn ts own g = (hook n fa fn ts own).obs s := by
  rw [show g = s.heap.get? from funext h] <;> rfl
/-- an own error class over ValueError with an own __init__ -/
def oexB (K : PySem.W.Frag) (C : Addr) : Bool := match K.lookup C with
  | some ⟨.type t, _, .cls ⟨_, _, .ref c :: bm, _, _, true, _, _, _, _, false⟩, sl⟩ => (decide (t = "type") && (decide (c = C) && PySem.HandSPX.refsVE bm)) && (match sl.toList with
    | [_, _, _, _, some (.builtin z), _] => decide (z = "ValueError.__new__")
    | _ => false)
  | _ => false
def clsB (K : PySem.W.Frag) (C : Addr) : Bool := oexB K C && (He.eqO (PySem.W.findIn K (.ref C) "__setattr__") (some (some (.builtin "object.__setattr__"))) && (decide (PySem.W.subIn K (.ref C) (.type "BaseException") = some true) &&
  (decide (PySem.W.typeIn K (.ref C) = some (.type "type")) && PySem.W.keepIn K (.ref C))))
theorem oexB_ok {K : PySem.W.Frag} {C : Addr} (h : clsB K C = true) : OexC K C := by
  obtain ⟨h1, h⟩ := He.ba h
  obtain ⟨h2, h⟩ := He.ba h
  obtain ⟨h3, h⟩ := He.ba h
  obtain ⟨h4, h5⟩ := He.ba h
  refine ⟨?_, He.eqO_ok h2, of_decide_eq_true h3, of_decide_eq_true h4, h5⟩
  unfold oexB at h1
  split at h1
  · rename_i t dd nm bs c bm N qn sn sub ab col sl e
    obtain ⟨q1, q2⟩ := He.ba h1
    obtain ⟨q3, q4⟩ := He.ba q1
    obtain ⟨q5, q6⟩ := He.ba q4
    have e1 := of_decide_eq_true q3
    have e2 := of_decide_eq_true q5
    subst e1 e2
    split at q2
    · rename_i k0 k1 k2 k3 z k5 es
      have e3 := of_decide_eq_true q2
      subst e3
      obtain ⟨sl⟩ := sl
      simp only at es
      subst es
      exact ⟨nm, qn, N, bs, bm, sn, sub, ab, col, dd, k0, k1, k2, k3, k5, e, q6⟩
    · cases q2
  · cases h1
/-- isinstance asks its instances rightly -/
def excB (K : PySem.W.Frag) (D : Addr) : Bool := L2.xfB K D && (He.eqO (PySem.W.findIn K (.ref D) "__class__") (some (some (.builtin "object.__class__"))) && (decide (PySem.W.mroIn K D (.type "object") = some true) && getB K))
where getB (K : PySem.W.Frag) : Bool := decide (PySem.W.specialIn K (.builtin "object.__class__") "__get__" = some (some (.builtin "getset_descriptor.__get__"))) && decide (PySem.W.takesIn K (.builtin "object.__class__") = some true)
theorem excB_ok {K : PySem.W.Frag} {D : Addr} (h : excB K D = true) : ExcC K D ∧ XfC K D := by
  obtain ⟨h1, h⟩ := He.ba h
  obtain ⟨h2, h⟩ := He.ba h
  obtain ⟨h3, h⟩ := He.ba h
  obtain ⟨h4, h5⟩ := He.ba h
  have x := L2.xfB_ok h1
  exact ⟨⟨x.ga, x.gg, x.exC, x.hdC, He.eqO_ok h2, of_decide_eq_true h4, of_decide_eq_true h5, of_decide_eq_true h3⟩, x⟩
/-- isinstance of an own class's instances -/
def insB (K : PySem.W.Frag) (D : Addr) : Bool := He.eqO (PySem.W.findIn K (.ref D) "__class__") (some (some (.builtin "object.__class__"))) && (decide (PySem.W.mroIn K D (.type "object") = some true) && excB.getB K)
end Hk

set_option Elab.async false
set_option linter.all false
set_option maxRecDepth 100000
set_option maxHeartbeats 4000000
namespace Lw
open PySem PySem.Spec PyProof.Rows L2
/-! an own error with an own __init__, made: its context is None -/
section
variable {X : Cx} {CX : CXT} {x : Str} {e : Expr} {es : List Expr} {ta : TA} {p pos : Pos} {C fI : Addr} {k : Nat} {fd : FuncData} {ps : List Str} {sp : Sp} {ds : List Value} {dvs : List V}
theorem pmk_oexN (T : OexC X.K C) (iC : PySem.W.findIn X.K (.ref C) "__init__" = some (some (.ref fI))) (tI : PySem.W.typeIn X.K (.ref fI) = some (.type "function")) (F1 : FnOk X.prog X.w X.K X.mg X.base CX k fI fd ps sp) (hr : Room (k + 1) X.A) (hb : Binds X.K fd ps ds)
    (hd : Vals dvs ds) (hx : Passes CX X (fun _ _ _ => False)) (hm : X.mg x = some (.ref C)) (ha : PA X (e :: es) ta) (hg : Gl X x := by rfl) (hdb : (x == ("__debug__" : Str)) = false := by decide) (he : starEach (e :: es) X.env = (false, eval e X.env) :: starEach es X.env := by rfl)
    (hpl : (backTo pos (starEach es X.env)).any (·.1) = false := by rfl) : L2N.PMk X (.Call (.Name x p) (e :: es) [] pos) (tMkO C sp dvs ta) := fun pins s σ H Q I h => by
  obtain ⟨nm, qn, N, bs, bm, sn, sub, ab, col, dd, k0, k1, k2, k3, k5, hC, hbm⟩ := T.cls
  refine wpAny_Call_Name_kw (ld_glob I hg hm (PySem.W.callWith_K (h₀ := X.base) I.ok.mod.kin T.kC (thn (ha.run pos pins s σ H _ I h) fun us st ⟨vs, H1, J, rv, hz, q1⟩ => ⟨J.kIn, ?_⟩) he hpl) hdb)
  show wpAny _ _ (call (.ref C) us) _ _ _
  obtain ⟨hp, g, dr, tk, os⟩ := st
  have up : hp.objs.size ≤ hp.objs.size + 1 := by omega
  have spec := q1 (hp.objs.size + 1) (J.hok.fresh up)
  have stay : ∀ b o, hp.get? b = some o → ((hp.push (PySem.W.kdv_tup us)).push (PySem.HandSPX.excO C hp.objs.size)).get? b = some o := fun b o z => Heap.get?_push_of_some _ (Heap.get?_push_of_some _ z)
  have there : ((hp.push (PySem.W.kdv_tup us)).push (PySem.HandSPX.excO C hp.objs.size)).get? (hp.objs.size + 1) = some (PySem.HandSPX.excO C hp.objs.size) := by heap_get
  have J2 := J.laid (t' := tk) (a := hp.objs.size + 1) (o := exo (hp.objs.size + 1) C none) (h' := (hp.push (PySem.W.kdv_tup us)).push (PySem.HandSPX.excO C hp.objs.size)) stay up (exo_ok there)
  have rel : Vals (V.ref (hp.objs.size + 1) :: (vs ++ dvs)) (Value.ref (hp.objs.size + 1) :: (us ++ ds)) := .cons rfl (rv.append hd)
  have len : (Value.ref (hp.objs.size + 1) :: us ++ ds).length = ps.length := (F1.len _ _ _ _ spec ▸ rel.length).symm
  have line : us.length ≤ sizeLine := by rw [← Paired.length rv, sizeLine_eq]; omega
  refine wpAny_call (PySem.HandSPX.call_own F.excBase_ValueError (fun Y => PySem.HandSPX.refsVE_contains Y bm hbm) (J.kIn _ _ hC) (PySem.W.looks_findIn J.kIn iC) (fun self => PySem.W.bind_fn J.kIn self tI) line
    (codeAny_mono (F1.run _ X.stack _ _ ⟨Value.ref (hp.objs.size + 1) :: us, []⟩ (Value.ref (hp.objs.size + 1) :: (us ++ ds)) _ _ (fun _ _ _ => False) (hr.make C us []) (J2.env0.make C us []) (hb _ (Value.ref (hp.objs.size + 1) :: us) J2.kIn len) rel spec) fun r s' back => ?_))
  match r, back with
  | .error er, back => exact hx pins σ _ _ er s' J2 back
  | .ok .next, back => exact back.elim
  | .ok .brk, back => exact back.elim
  | .ok .cont, back => exact back.elim
  | .ok (.ret u), back =>
    obtain ⟨v, H2, os2, bare2, un2, hok2, rv2, ev, d, fs, ea, ed, hd1, q2⟩ := back
    subst ev
    obtain ⟨h2, g2, d2, t2, os'⟩ := s'
    obtain ⟨t0, G, JG, kG, ge, hoe, na⟩ := mk_end0 (d2 := d2) (t2 := t2) J up stay un2 hok2 os2 bare2 ea ed hd1
    exact ⟨rv2, _, _, _, ⟨G, g2, d2, t2, os'⟩, _, .ref C, some d, rfl, JG, kG, ge, hoe, ⟨rfl, rfl, fun z ez => by cases ez; rfl⟩, rfl, rfl, na, rfl, bare2, raises_own T.exC T.tyC, q2⟩
/-! C(e, ..), C what a local name holds -/
def tMakeL (i : Nat) (C : Addr) (sp : Sp) (E : XK) (t : TA) : TE := fun σ H Q => σ[i]? = some (some (.ref C)) ∧ tMake C sp [] E t σ H Q
theorem pe_makeL {E : XK} {t : TA} {i f : Nat} (M : Mk X.K C f) (F : FnOk X.prog X.w X.K X.mg X.base CX k f fd ps sp) (hr : Room (k + 1) X.A) (hN : X.N[i]? = some x) (hv : Vis X.env.scope x) (hb : Binds X.K fd ps []) (hx : Passes CX X E) (ha : PA X (e :: es) t)
    (hdb : (x == ("__debug__" : Str)) = false := by decide) (hcd : (x == ("__classdict__" : Str)) = false := by decide) (he : starEach (e :: es) X.env = (false, eval e X.env) :: starEach es X.env := by rfl) (hpl : (backTo pos (starEach es X.env)).any (·.1) = false := by rfl) :
    PE X (.Call (.Name x p) (e :: es) [] pos) (tMakeL i C sp E t) := ⟨fun pins s σ H Q I ⟨hs, ht⟩ => by
  refine wpAny_Call_Name_kw (thn ((pe_var (pos := p) hN hv hdb hcd).run pins s σ H (fun v H1 => v = .ref C ∧ H1 = H) I ⟨.ref C, hs, rfl, rfl⟩) fun u s1 ⟨v, H1, J, r1, e1, e2⟩ => ?_)
  subst e1 e2
  obtain rfl : u = Value.ref C := r1
  exact PySem.W.callWith_K (h₀ := X.base) J.ok.mod.kin M.kp (thn (ha.run pos pins s1 σ H1 _ J ht) fun us s2 ⟨vs, H2, J2, r, q⟩ => ⟨J2.kIn, run_make M F hr hb .nil hx J2 r q⟩) he hpl⟩
/-! what a try's body lets out, whatever its slots are -/
def WL (X : Cx) (W : WX) : XK := fun cls d H => ∀ σ : L2.St, σ.length = X.N.length → W cls d σ H
theorem passL {W : WX} (tk : L2N.Takes X W) : Passes (L2N.CX X.prog X.w) X (WL X W) := fun pins σ H s u s' I c => by
  obtain ⟨a, B, H', cls, d, hu, fl, hok, ub, na, os, ag, hE⟩ := c
  exact tk u s' (L2N.XE.of_call (W := W) (E := fun c d H => W c d σ H) I (fun _ _ _ z => z) ⟨a, B, H', cls, d, hu, fl, hok, ub, na, os, ag, hE σ I.len⟩)
end
/-! a def called while an error is handled -/
theorem okH {CX : CXT} {P : Program} {w : World} {K : PySem.W.Frag} {mg : Str → Option Value} {base : Heap} {k : Nat} {x qual : Str} {params : Arguments} {bd : List Stmt} {scope : Scope} {dvs : List V} {kws : List (Str × V)} {f : Addr} {fd : FuncData} {N ps : List Str} {sp : Sp}
    (F : FunD K x qual params bd scope dvs kws f fd) (S : FnScope N ps scope) (len : ∀ vs H Q E, sp vs H Q E → vs.length = ps.length)
    (hb : ∀ (cdv : Value) (A : Around) (outer : List Env) (s : Shared) (H : Hp) (vs : List V) (Q : VK) (E : XK) (p : Addr × Obj), L2H.Hot1 A p → L2H.RoomH k (A.deeper (envOfC qual scope s.heap.objs.size f cdv)) → sp vs H Q E →
      ∃ t, PSs (L2H.cxH CX P w K mg base N qual scope f cdv A outer s H E p) bd t ∧ t { nx := fun _ H' => Q .non H', rt := Q } (start N vs) H) : L2H.FnH P w K mg base CX (k + 1) f fd ps sp := by
  obtain ⟨oc, od, dV, kV, doc, pm, an, cdv, ct, osl, rfl, lk, hcd, _, _⟩ := F.ex
  exact L2H.fn_ofH lk hcd S len fun A outer s H vs Q E p h1 h2 h3 => hb cdv A outer s H vs Q E p h1 h2 h3
end Lw

set_option Elab.async false
set_option linter.all false
set_option maxRecDepth 100000
set_option maxHeartbeats 4000000
namespace Lw
open PySem PySem.Spec PyProof.Rows L2
/-! the draws of the later laws: also out of very many -/
def spDrawW : Sp := fun vs H Q _ => ∃ (a : Addr) (n : Nat) (m : Int), vs = [.ref a, .int m] ∧ Src H a n ∧ n ≤ 1000000000 ∧ 0 < m ∧ m.natAbs < 2 ^ 200 ∧
  ∀ H' i, Keep a H H' → Src H' a (n + 1) → 0 ≤ i → i < m → Q (.int i) H'
theorem small_m {m : Int} (h : -1000000000000000000000 < m ∧ m < 1000000000000000000000) : m.natAbs < 2 ^ 200 := by omega
/-! a tuple that the module holds -/
def tupB (K : PySem.W.Frag) (a : Addr) (xs : List V) : Bool := match K.lookup a with
  | some ⟨.type t, _, .seq its _, _⟩ => decide (t = "tuple") && (decide (its.size ≤ 1000) && decide (its.toList.map absV = xs.map some))
  | _ => false
theorem rel_of_abs {x : V} {u : Value} (h : absV u = some x) : RelV x u := by
  unfold absV at h
  split at h <;> first | cases h | skip
  all_goals first | rfl | exact ⟨_, rfl⟩
theorem vals_of_abs : ∀ {us : List Value} {xs : List V}, us.map absV = xs.map some → Vals xs us
  | [], [], _ => .nil
  | u :: us, x :: xs, h => by
    simp only [List.map_cons, List.cons.injEq] at h
    exact .cons (rel_of_abs h.1) (vals_of_abs h.2)
  | [], _ :: _, h => by cases h
  | _ :: _, [], h => by cases h
theorem tupB_ok {K : PySem.W.Frag} {a : Addr} {xs : List V} {H : Hp} (h : tupB K a xs = true) : SqT K H a xs := by
  unfold tupB at h
  split at h
  · rename_i t d its n sl e
    obtain ⟨h1, h2⟩ := He.ba h
    obtain ⟨h3, h4⟩ := He.ba h2
    have e1 := of_decide_eq_true h1
    have e2 := of_decide_eq_true h3
    have hs : sizeLine = 16777216 := by decide
    subst e1
    exact .inr ⟨_, its, n, e, rfl, rfl, by omega, vals_of_abs (of_decide_eq_true h4)⟩
  · cases h
end Lw
namespace Lw
open PySem PySem.Spec PyProof.Rows L2
theorem it_bf {b : Bool} {A B : Prop} (h : b = false) (x : B) : if b = true then A else B := by
  rw [h, if_neg Bool.false_ne_true]; exact x
theorem it_bt {b : Bool} {A B : Prop} (h : b = true) (x : A) : if b = true then A else B := by
  rw [h, if_pos rfl]; exact x
theorem str_mem {z : Str} {ts : List Str} {A B : Prop} (h1 : z ∈ ts → A) (h2 : z ∉ ts → B) : if inV (.str z) (ts.map V.str) = true then A else B := by
  rw [inV_str]
  by_cases h : z ∈ ts
  · rw [decide_eq_true h, if_pos rfl]; exact h1 h
  · rw [decide_eq_false h, if_neg Bool.false_ne_true]; exact h2 h
theorem kb_rel {K : PySem.W.Frag} {x qual : Str} {params : Arguments} {body : List Stmt} {scope : Scope} {kws : List (Str × V)} {f : Addr} {fd : FuncData} {ps ks : List Str} {g : List Value → List Value} {gV : List V → List V} (F : FunD K x qual params body scope [] kws f fd) (hr : ∀ {zs us}, Vals zs us → Vals (gV zs) (g us))
    (h : ∀ (kV doc pm : Value) (an : Option Addr) (cdv ct : Value) (ws : List Value), ws.length = ks.length → bindArgs (PySem.W.fnOf x qual params body scope .none kV doc pm an cdv ct) ⟨[], ks.zip ws⟩ = pure (ps.zip (g ws))) : KBn K fd ps 0 ks (fun _ ws => g ws) (fun _ zs => gV zs) := by
  obtain ⟨oc, od, dV, kV, doc, pm, an, cdv, ct, osl, rfl, lk, hcd, hD, hK⟩ := F.ex
  rcases hD with ⟨_, rfl⟩ | ⟨e, _⟩
  · exact ⟨fun s us ws _ l1 l2 => by
      obtain rfl : us = [] := List.length_eq_zero_iff.mp l1
      exact .of_eq (h kV doc pm an cdv ct ws l2), fun _ r => hr r⟩
  · exact absurd rfl e
theorem pass0S {X : Cx} : ∀ σ : L2.St, PassesAt CX0 X σ ((fun _ => E0 : L2.St → XK) σ) := fun _ _ _ _ _ _ _ h => h.elim
theorem same_at {H G : Hp} {D : Addr} {o : HO} (n : H D = none) (s : Same H G) : Same H (upd G D o) := fun b u h => by
  rw [upd_ne (ne_of_none h n)]
  exact s b u h
theorem g_name {i : Nat} {v : V} {σ : L2.St} {H : Hp} {Q : L2.St → Hp → Prop} (h : Q (σ.set i (some v)) H) : gName i v σ H Q := h
theorem vals_rev : ∀ {vs : List V} {us : List Value}, Vals vs us → Vals vs.reverse us.reverse
  | _, _, .nil => .nil
  | _, _, .cons h r => by
    rw [List.reverse_cons, List.reverse_cons]
    exact Vals.append (vals_rev r) (.cons h .nil)
end Lw
namespace Lw
open PySem PySem.Spec PyProof.Rows L2
theorem cutV_ints (ns : List Int) (lo hi : Option Int) : ∃ ms : List Int, cutV (ns.map V.int) lo hi = ms.map V.int ∧ ms.length ≤ ns.length := by
  unfold cutV
  refine ⟨(ns.drop (HT.sIx (ns.map V.int).length 0 lo)).take (HT.sIx (ns.map V.int).length (ns.map V.int).length hi - HT.sIx (ns.map V.int).length 0 lo), ?_, ?_⟩
  · rw [List.map_take, List.map_drop]
  · rw [List.length_take, List.length_drop]; omega
theorem none_of_same {H G : Hp} (s : Same H G) {q : Addr} (h : G q = none) : H q = none := by
  cases e : H q with
  | none => rfl
  | some o => rw [s _ _ e] at h; cases h
theorem keep_at {a : Addr} {H G : Hp} {D : Addr} {o : HO} (n : H D = none) (s : Keep a H G) : Keep a H (upd G D o) := fun b u nb h => by
  rw [upd_ne (ne_of_none h n)]
  exact s b u nb h
/-! words, several and different -/
def cand1 (w : Str) (c : Nat) : Str := sign c ++ cutS w (some 1) none
def WInv (z : Str) (ts : List Str) (j : Nat) (y : Str) : Prop := IsWord y ∧ IsWord z ∧ y.cps.toList.drop 1 = z.cps.toList.drop 1 ∧ (y ∉ ts ∨ ∀ i c, i + 1 < j → abc[i]? = some c → cand1 z c ∈ ts) ∧ (y ∉ ts ∨ j = 0 ∨ ∃ c, abc[j - 1]? = some c ∧ y = cand1 z c)
theorem cand1_tl (w : Str) (c : Nat) : (cand1 w c).cps.toList = c :: w.cps.toList.drop 1 := by
  unfold cand1
  rw [tl_app, tl_sign]
  unfold cutS
  have h1 : HT.sIx w.length 0 (some 1) = min 1 w.length := HT.sIx_nat _ _ 1
  have h2 : HT.sIx w.length w.length none = w.length := rfl
  rw [h1, h2]
  have h3 : w.length = w.cps.toList.length := len_tl w
  show [c] ++ (List.take (w.length - min 1 w.length) (List.drop (min 1 w.length) w.cps.toList)) = _
  rw [h3]
  show c :: _ = _
  congr 1
  cases w.cps.toList with
  | nil => rfl
  | cons x r =>
    have e : min 1 (x :: r).length = 1 := by simp only [List.length_cons]; omega
    rw [e]
    simp
theorem WInv.word {z y : Str} {ts : List Str} {j : Nat} (h : WInv z ts j y) : IsWord y := h.1
theorem WInv.zero {z : Str} {ts : List Str} (h : IsWord z) : WInv z ts 0 z := ⟨h, h, rfl, .inr fun i c hi => absurd hi (by omega), .inr (.inl rfl)⟩
theorem WInv.stay {z y : Str} {ts : List Str} {j : Nat} (h : WInv z ts j y) (n : y ∉ ts) : WInv z ts (j + 1) y := ⟨h.1, h.2.1, h.2.2.1, .inl n, .inl n⟩
theorem cand1_inj {w : Str} {c d : Nat} (h : cand1 w c = cand1 w d) : c = d := by
  have e : (cand1 w c).cps.toList = (cand1 w d).cps.toList := by rw [h]
  rw [cand1_tl, cand1_tl] at e
  exact (List.cons.inj e).1
theorem cand1_eq {z y : Str} (e : y.cps.toList.drop 1 = z.cps.toList.drop 1) (c : Nat) : cand1 y c = cand1 z c := by
  have h : (cand1 y c).cps.toList = (cand1 z c).cps.toList := by rw [cand1_tl, cand1_tl, e]
  have h2 : (cand1 y c).cps = (cand1 z c).cps := Array.toList_inj.mp h
  cases h3 : cand1 y c
  cases h4 : cand1 z c
  rw [h3, h4] at h2
  cases h2
  rfl
theorem WInv.step {z y : Str} {ts : List Str} {j c : Nat} (h : WInv z ts j y) (hin : y ∈ ts) (hc : abc[j]? = some c) : WInv z ts (j + 1) (cand1 y c) := by
  obtain ⟨h1, h2, h3, h4, h5⟩ := h
  have t := cand1_tl y c
  refine ⟨?_, h2, by rw [t]; exact h3, .inr fun i d hi hd => ?_, .inr (.inr ⟨c, by simpa using hc, cand1_eq h3 c⟩)⟩
  · obtain ⟨w1, w2, w3⟩ := h1
    rw [len_tl] at w1 w2
    refine ⟨by rw [len_tl, t]; simp, ?_, fun x hx => ?_⟩
    · rw [len_tl, t, List.length_cons, List.length_drop]; omega
    · rw [t] at hx
      rcases List.mem_cons.mp hx with e | e
      · rw [e]; exact abc_le (List.mem_of_getElem? hc)
      · exact w3 x (List.mem_of_mem_drop e)
  · rcases Nat.lt_or_ge (i + 1) j with l | l
    · rcases h4 with h4 | h4
      · exact absurd hin h4
      · exact h4 i d l hd
    · have e : i = j - 1 := by omega
      rcases h5 with h5 | h5 | ⟨d2, e1, e2⟩
      · exact absurd hin h5
      · omega
      · rw [e] at hd
        rw [e1] at hd
        cases hd
        rw [← e2]
        exact hin
theorem WInv.done {z y : Str} {ts : List Str} (h : WInv z ts 26 y) (l : ts.length ≤ 24) : y ∉ ts := by
  obtain ⟨_, _, _, h4, _⟩ := h
  rcases h4 with h4 | h4
  · exact h4
  exfalso
  have hm : ∀ x ∈ (abc.take 25).map (cand1 z), x ∈ ts := fun x hx => by
    obtain ⟨c, hc, rfl⟩ := List.mem_map.mp hx
    obtain ⟨i, hi, e⟩ := List.mem_take_iff_getElem.mp hc
    refine h4 i c (by omega) ?_
    rw [← e]
    exact List.getElem?_eq_getElem _
  have nd : ((abc.take 25).map (cand1 z)).Nodup := by
    have h0 : (abc.take 25).Nodup := by decide
    exact List.Pairwise.map _ (fun a b ne q => ne (cand1_inj q)) h0
  have := nodup_le nd hm
  rw [List.length_map] at this
  have : (abc.take 25).length = 25 := rfl
  omega
def spWord2 (K : PySem.W.Frag) : Sp := fun vs H Q _ => ∃ (a b : Addr) (n : Nat) (ts : List Str), vs = [.ref a, .ref b] ∧ Src H a n ∧ n ≤ 900000000 ∧ b ≠ a ∧ SqL K H b (ts.map V.str) ∧ ts.length ≤ 24 ∧
  ∀ H' w, Keep a H H' → Src H' a (n + 10) → IsWord w → w ∉ ts → Q (.str w) H'
def GoodWs (ws ts : List Str) : Prop := ws.Nodup ∧ ∀ z ∈ ws, IsWord z ∧ z ∉ ts
theorem GoodWs.nil {ts : List Str} : GoodWs [] ts := ⟨List.nodup_nil, fun _ h => (List.not_mem_nil h).elim⟩
theorem GoodWs.snoc {ws ts : List Str} {z : Str} (h : GoodWs ws ts) (hz : IsWord z) (n : z ∉ ts ++ ws) : GoodWs (ws ++ [z]) ts := by
  have n1 : z ∉ ts := fun m => n (List.mem_append_left _ m)
  have n2 : z ∉ ws := fun m => n (List.mem_append_right _ m)
  refine ⟨List.nodup_append.mpr ⟨h.1, by simp, fun x hx y hy => ?_⟩, fun x hx => ?_⟩
  · rw [List.mem_singleton.mp hy]
    exact fun e => n2 (e ▸ hx)
  · rcases List.mem_append.mp hx with m | m
    · exact h.2 x m
    · rw [List.mem_singleton.mp m]; exact ⟨hz, n1⟩
def spWords (K : PySem.W.Frag) : Sp := fun vs H Q _ => ∃ (a b : Addr) (n : Nat) (m : Int) (ts : List Str), vs = [.ref a, .int m, .ref b] ∧ Src H a n ∧ n ≤ 800000000 ∧ b ≠ a ∧ H b = some (.lst (ts.map V.str)) ∧ ts.length ≤ 10 ∧ (0 ≤ m ∧ m ≤ 8) ∧
  ∀ l H' ws, H l = none → Keep a H H' → Src H' a (n + 80) → H' l = some (.lst (ws.map V.str)) → ws.length = m.toNat → GoodWs ws ts → Q (.ref l) H'
def spNumL : Sp := fun vs H Q _ => ∃ (a : Addr) (n : Nat) (m : Int), vs = [.ref a, .int m] ∧ Src H a n ∧ n ≤ 900000000 ∧ 0 < m ∧ m.natAbs < 2 ^ 198 ∧
  ∀ H' i, Keep a H H' → Src H' a (n + 2) → Q (.int i) H'
structure TxtQ (mg : Str → Option Value) : Prop where
  isi : mg "isinstance" = none
  int : mg "int" = none
  bool : mg "bool" = none
  list : mg "list" = none
  dict : mg "dict" = none
end Lw

set_option Elab.async false
set_option linter.all false
set_option maxRecDepth 100000
set_option maxHeartbeats 4000000
namespace Lk
open PySem PySem.Spec PyProof.Rows L2
/-! list(d.keys()) -/
def tListKeys (te : TE) : TE := fun σ H Q => te σ H fun x H1 => ∃ (d : Addr) (kvs : List (Key × V)), x = .ref d ∧ H1 d = some (.dK kvs) ∧ ∀ p, H1 p = none → Q (.ref p) (upd H1 p (.lst (kvs.map fun kv => kV kv.1)))
section
variable {X : Cx} {e : Expr} {te : TE} {p apos cpos pos : Pos}
theorem pe_listKeys (hc : X.calm = true) (he : PE X e te) (hg : Gl X "list") (hm : X.mg "list" = none) (hv : bootBuiltins "list" = some (.type "list")) (hbase : attributeBase e "keys" X.env (eval e X.env) = eval e X.env := by rfl) (hline : (apos.endLine == cpos.line) = true := by rfl)
    (hs : starEach [.Call (.Attribute e "keys" apos) [] [] cpos] X.env = (false, eval (.Call (.Attribute e "keys" apos) [] [] cpos) X.env) :: starEach [] X.env := by rfl) :
    PE X (.Call (.Name "list" p) [.Call (.Attribute e "keys" apos) [] [] cpos] [] pos) (tListKeys te) := by
  refine ⟨fun pins s σ H Q I hq => ?_⟩
  refine wpAny_Call_Name_kw (ld_blt I hg hm hv ?_)
  refine PyProof.Rows.callWith_type1 ?_ hs rfl
  rw [hs]
  show wpAny _ _ (spliced ((false, eval (.Call (.Attribute e "keys" apos) [] [] cpos) X.env) :: backTo pos (starEach [] X.env))) _ _ s
  refine Calls.spliced_cons ?_
  refine wpAny_Call_method (T := "dict") (id := "dict.keys") hbase rfl hline F.plainAttrs_dict F.slot_dict_keys F.type_dict_keys (thn (he.run pins s σ H _ I hq) fun u s1 ⟨x, H1, I1, rx, d, kvs, ex, hd, q⟩ => ?_)
  subst ex
  obtain rfl : u = Value.ref d := rx
  obtain ⟨hz, hs0, vs, kv, hdo⟩ := I1.hok d _ hd
  obtain ⟨ep, hat⟩ := hdo.dictAt
  have lk : kvs.length = vs.length := Paired.length kv
  have I2 : Inv X pins σ H1 { s1 with heap := s1.heap.push { cls := .type "dict_keys", data := .fields #[.ref d] } } := I1.kept (t' := s1.toks) fun b ob q => Heap.get?_push_of_some _ q
  have ek : (kvs.map fun kv => kV kv.1) = vs.map fun p => kV p.1 := by
    have e := congrArg (List.map kV) kv.keys
    rw [List.map_map, List.map_map] at e
    exact e
  refine ⟨hdo.typeIs, hdo.mapOf.noDict, ?_⟩
  show wpAny _ _ (callWith cpos (.builtin "dict.keys") [.ref d] [] []) _ X.xe s1
  refine method_meetsIn F.slot_dict_keys F.entry_dict_keys rfl (PySem.evalArgs_none ⟨rfl, hdo.typeIs, F.args_dict_keys_1 _, _, PySem.W.kdl_meets_keys (mixKind X.prog X.w) d hs0, ⟨vs, hdo⟩, ?_⟩)
  refine Calls.spliced_nil ?_
  refine PySem.W.kdl_call (PySem.W.kdl_keys (knd := mixKind X.prog X.w) (kvs := vs) (ep := ep)) (I1.ok.hd hc) ⟨⟨_, Heap.get?_push_size _ rfl, rfl, rfl⟩, hat.push _⟩ (by rw [← lk]; exact hz) fun h' tk acc c' hk hD hacc => ?_
  have hv2 : Vals (vs.map fun p => kV p.1) acc.toList := keys_at (by rw [Array.length_toList]; exact hacc.1) fun j v e => hacc.2 j v (by rw [← Array.getElem?_toList]; exact e)
  refine ⟨.ref _, upd H1 _ (.lst (kvs.map fun kv => kV kv.1)), I2.laid (t' := tk) hk (Nat.le_refl _)
    (show ObjOk X.prog X.w _ _ _ (.lst (kvs.map fun kv => kV kv.1)) from ⟨by rw [List.length_map]; exact hz, acc.toList, c', by rw [ek]; exact hv2, by rw [Array.toArray_toList]; exact hD⟩), rfl, q _ (I2.hok.fresh (Nat.le_refl _))⟩
end
end Lk
namespace Lw
open PySem PySem.Spec PyProof.Rows L2
/-! one order of texts only -/
theorem rising_all : ∀ (r : List Str) (p : Str), risingS p r = true → (∀ y ∈ r, p.cps.toList ≤ y.cps.toList) ∧ sortedS r = true
  | [], _, _ => ⟨fun _ h => (List.not_mem_nil h).elim, rfl⟩
  | x :: r, p, h => by
    unfold risingS at h
    rw [Bool.and_eq_true, Bool.not_eq_true', ltCps_eq] at h
    have h1 : ¬ x.cps.toList < p.cps.toList := of_decide_eq_false h.1
    have h2 : p.cps.toList ≤ x.cps.toList := List.not_lt.mp h1
    refine ⟨fun y hy => ?_, h.2⟩
    rcases List.mem_cons.mp hy with rfl | hy
    · exact h2
    · exact List.le_trans h2 ((rising_all r x h.2).1 y hy)
theorem str_ext {a b : Str} (h : a.cps.toList = b.cps.toList) : a = b := by
  have := Array.toList_inj.mp h
  cases a
  cases b
  cases this
  rfl
theorem sorted_one : ∀ {xs ys : List Str}, sortedS xs = true → sortedS ys = true → xs.Perm ys → xs = ys
  | [], ys, _, _, p => by rw [List.nil_perm.mp p]
  | x :: xs, [], _, _, p => by cases List.perm_nil.mp p
  | x :: xs, y :: ys, hx, hy, p => by
    obtain ⟨a1, a2⟩ := rising_all xs x hx
    obtain ⟨b1, b2⟩ := rising_all ys y hy
    have e : x = y := by
      rcases List.mem_cons.mp (p.mem_iff.mp List.mem_cons_self) with e | e
      · exact e
      rcases List.mem_cons.mp (p.mem_iff.mpr (List.mem_cons_self (a := y))) with e2 | e2
      · exact e2.symm
      exact str_ext (List.le_antisymm (a1 y e2) (b1 x e))
    subst e
    rw [sorted_one a2 b2 (List.Perm.cons_inv p)]
end Lw

set_option Elab.async false
set_option linter.all false
set_option maxRecDepth 100000
set_option maxHeartbeats 0
namespace Hc
open PySem PySem.Spec PyProof.Rows L2
/-! a Hook: facts, defs wherever they stand, one Bool more -/
abbrev Al : Type := He.AlD × Bool
def obG (n : Nat) (fa : List He.Fa) (fn : List He5.DefA) (own : PySem.W.Frag → Bool) (g : Addr → Option Obj) : Al := (He5.obsAG n fa fn g, own (He.frG g (He5.asA g n)))
def Says (fa : List He.Fa) (fn : List He5.DefA) (own : PySem.W.Frag → Bool) (K : PySem.W.Frag) : Prop := He5.SaysA fa fn K ∧ own K = true
def hook (n : Nat) (fa : List He.Fa) (fn : List He5.DefA) (own : PySem.W.Frag → Bool) : PySem.W.Hook where
  α := Al
  obs := fun s => obG n fa fn own s.heap.get?
  val := fun _ => (He5.valA fn, true)
  says := fun _ h => ∃ K : PySem.W.Frag, K.In h ∧ Says fa fn own K
  of := fun _ _ e => ⟨_, He.frG_in, congrArg Prod.fst e, congrArg Prod.snd e⟩
  keeps := fun _ _ _ ⟨K, hK, c⟩ k => ⟨K, PySem.W.Frag.In.keeps hK k, c⟩
theorem obG_eq {n : Nat} {fa : List He.Fa} {fn : List He5.DefA} {own : PySem.W.Frag → Bool} {g : Addr → Option Obj} {s : Shared} (h : ∀ a, g a = s.heap.get? a) : obG n fa fn own g = (hook n fa fn own).obs s := by
  rw [show g = s.heap.get? from funext h] <;> rfl
theorem Says.fact {fa : List He.Fa} {fn : List He5.DefA} {own : PySem.W.Frag → Bool} {K : PySem.W.Frag} (c : Says fa fn own K) {f : He.Fa} (hf : f ∈ fa) : f.ok K = true := by
  obtain ⟨i, hi⟩ := List.getElem?_of_mem hf
  exact c.1.fact i hi
/-- a class's constants -/
def cvS (K : PySem.W.Frag) (C : Addr) (f z : Str) : Bool := match PySem.W.findCls K (.ref C) (.type "type") f with
  | some (.val (.str y _)) => decide (y = z)
  | _ => false
def cvI (K : PySem.W.Frag) (C : Addr) (f : Str) (i : Int) : Bool := match PySem.W.findCls K (.ref C) (.type "type") f with
  | some (.val (.int y _)) => decide (y = i)
  | _ => false
theorem cvS_ok {K : PySem.W.Frag} {C : Addr} {f z : Str} (h : cvS K C f z = true) : ∃ u, ClX.CVal K C (.type "type") f (.str z) u := by
  unfold cvS at h
  split at h
  · rename_i y t e
    exact ⟨_, e, t, by rw [of_decide_eq_true h]⟩
  · cases h
theorem cvI_ok {K : PySem.W.Frag} {C : Addr} {f : Str} {i : Int} (h : cvI K C f i = true) : ∃ u, ClX.CVal K C (.type "type") f (.int i) u := by
  unfold cvI at h
  split at h
  · rename_i y t e
    exact ⟨_, e, t, by rw [of_decide_eq_true h]⟩
  · cases h
def crB (K : PySem.W.Frag) (C : Addr) : Bool := PySem.W.readsIn K C (.type "type") && He.eqO (PySem.W.specialIn K (.ref C) "__getattribute__") (some (some (.builtin "type.__getattribute__")))
theorem crB_ok {K : PySem.W.Frag} {C : Addr} (h : crB K C = true) : ClX.CRead K C (.type "type") := ⟨(He.ba h).1, He.eqO_ok (He.ba h).2⟩
end Hc
namespace Lw
open PySem PySem.Spec PyProof.Rows L2
def dG (x : Str) (st : Stmt) : He5.DefA := ⟨fun K => He.ga K x, x, x, defArgs st, defBody st, defScope st, [], []⟩
def dM (C m q : Str) (st : Stmt) (kwd : List (Str × He.Dv) := []) : He5.DefA := ⟨fun K => He.ma K (He.ga K C) m, m, q, defArgs st, defBody st, defScope st, [], kwd⟩
end Lw

set_option Elab.async false
set_option linter.all false
set_option maxRecDepth 100000
set_option maxHeartbeats 4000000
namespace Lw
open PySem PySem.Spec PyProof.Rows L2
/-! an expression that may be read in two ways -/
theorem pe_or {X : Cx} {e : Expr} {t1 t2 : TE} (h1 : PE X e t1) (h2 : PE X e t2) : PE X e (fun σ H Q => t1 σ H Q ∨ t2 σ H Q) := ⟨fun pins s σ H Q I h => h.elim (h1.run pins s σ H Q I) (h2.run pins s σ H Q I)⟩
theorem kb1 {K : PySem.W.Frag} {x qual : Str} {params : Arguments} {body : List Stmt} {scope : Scope} {kws : List (Str × V)} {f : Addr} {fd : FuncData} {ps ks : List Str} {g : List Value → List Value} {gV : List V → List V} (F : FunD K x qual params body scope [] kws f fd) (hr : ∀ {zs us}, Vals zs us → Vals (gV zs) (g us))
    (h : ∀ (kV doc pm : Value) (an : Option Addr) (cdv ct : Value) (u : Value) (ws : List Value), ws.length = ks.length → bindArgs (PySem.W.fnOf x qual params body scope .none kV doc pm an cdv ct) ⟨[u], ks.zip ws⟩ = pure (ps.zip (u :: g ws))) : KBn K fd ps 1 ks (fun us ws => us ++ g ws) (fun vs zs => vs ++ gV zs) := by
  obtain ⟨oc, od, dV, kV, doc, pm, an, cdv, ct, osl, rfl, lk, hcd, hD, hK⟩ := F.ex
  rcases hD with ⟨_, rfl⟩ | ⟨e, _⟩
  · exact ⟨fun s us ws _ l1 l2 => by
      match us, l1 with
      | [u], _ => exact .of_eq (h kV doc pm an cdv ct u ws l2), fun r q => r.append (hr q)⟩
  · exact absurd rfl e
/-! properties of the text's classes -/
def propB (K : PySem.W.Frag) (C : Addr) (m : Str) : Bool := He.eqO (PySem.W.findIn K (.ref C) m) (some (some (.ref (He.ma K C m)))) && (He.eqO (PySem.W.specialIn K (.ref (He.ma K C m)) "__get__") (some (some (.builtin "property.__get__"))) &&
  (decide (PySem.W.takesIn K (.ref (He.ma K C m)) = some true) && (match PySem.W.recIn K (He.ma K C m) "property" with
    | some (.ref _ :: _) => true
    | _ => false)))
theorem propB_ok {K : PySem.W.Frag} {C : Addr} {m : Str} (h : propB K C m = true) : PropOf K C m (He.ma K C m) (He5.wf K C "property" m) := by
  obtain ⟨h1, h⟩ := He.ba h
  obtain ⟨h2, h⟩ := He.ba h
  obtain ⟨h3, h4⟩ := He.ba h
  refine ⟨He.eqO_ok h1, He.eqO_ok h2, of_decide_eq_true h3, ?_⟩
  unfold He5.wf
  split at h4
  · rename_i f r e
    rw [e]
    exact ⟨r, rfl⟩
  · cases h4
def conB (K : PySem.W.Frag) (C : Addr) (f z : Str) : Bool := match PySem.W.findIn K (.ref C) f with
  | some (some (.str y t)) => decide (y = z) && He.eqO (PySem.W.specialIn K (.str y t) "__get__") (some none)
  | _ => false
theorem conB_ok {K : PySem.W.Frag} {C : Addr} {f z : Str} (h : conB K C f z = true) (hc : PySem.W.copiedNames.contains f = false) : ∃ u, Con K C f (.str z) u := by
  unfold conB at h
  split at h
  · rename_i y t e
    obtain ⟨h1, h2⟩ := He.ba h
    have e1 := of_decide_eq_true h1
    subst e1
    exact ⟨_, e, ⟨_, rfl⟩, He.eqO_ok h2, hc⟩
  · cases h
def dP (C m q : Str) (st : Stmt) : He5.DefA := ⟨fun K => He5.wf K (He.ga K C) "property" m, m, q, defArgs st, defBody st, defScope st, [], []⟩
/-! cells: names with integers or None -/
def IntN (v : V) : Prop := (∃ i : Int, v = .int i) ∨ v = .non
def RowOk (kvs : List (Key × V)) : Prop := (∃ ks : List Str, kvs.map (·.1) = ks.map Sum.inr ∧ ks.Nodup ∧ ∀ z ∈ ks, IsWord z) ∧ (∀ p ∈ kvs, IntN p.2) ∧ kvs.length ≤ 60
theorem IntN.flat {v : V} (h : IntN v) : flatB v = true := by
  rcases h with ⟨i, rfl⟩ | rfl <;> rfl
theorem RowOk.nodup {kvs : List (Key × V)} (h : RowOk kvs) : (kvs.map (·.1)).Nodup := by
  obtain ⟨⟨ks, e, n, _⟩, _⟩ := h
  rw [e]
  exact List.Pairwise.map _ (fun a b ne q => ne (Sum.inr.inj q)) n
theorem valV_mem : ∀ {kvs : List (Key × V)}, (kvs.map (·.1)).Nodup → ∀ p ∈ kvs, valV kvs p.1 = some p.2
  | [], _, _, h => by cases h
  | (k, v) :: r, n, p, h => by
    rw [List.map_cons, List.nodup_cons] at n
    rcases List.mem_cons.mp h with rfl | h
    · show valV ((k, v) :: r) k = some v
      unfold valV
      simp
    · have ne : p.1 ≠ k := fun e => n.1 (by rw [← e]; exact List.mem_map.mpr ⟨p, h, rfl⟩)
      have ih := valV_mem n.2 p h
      have hd : decide (k = p.1) = false := decide_eq_false fun e => ne e.symm
      show ((List.find? (fun kv => decide (kv.1 = p.1)) ((k, v) :: r)).map (·.2)) = some p.2
      rw [List.find?_cons]
      simp only [hd]
      exact ih
theorem depth_strs : ∀ ks : List Str, PyData.depthAll (ks.map PyData.str) = 0
  | [] => rfl
  | z :: r => by
    show max (PyData.depth (.str z)) (PyData.depthAll (r.map PyData.str)) = 0
    rw [depth_strs r]
    rfl
theorem canLay_strs : ∀ ks : List Str, (∀ z ∈ ks, IsWord z) → PyData.canLayAll0 (ks.map PyData.str) = true
  | [], _ => rfl
  | z :: r, h => by
    show (PyData.canLay0 (.str z) && PyData.canLayAll0 (r.map PyData.str)) = true
    rw [canLay_strs r fun y hy => h y (List.mem_cons_of_mem _ hy)]
    have h3 : PyData.canLay0 (.str z) = true := by
      show z.cps.all (· < 0x110000) = true
      rw [← Array.all_toList, List.all_eq_true]
      intro c hc
      have := (h z List.mem_cons_self).2.2 c hc
      exact decide_eq_true (by omega)
    rw [h3]
    rfl
theorem shaped_strs (ks : List Str) (h : ∀ z ∈ ks, IsWord z) : SeqAt.shaped (.list (ks.map PyData.str)) = true := by
  have e1 : PyData.canLay0 (.list (ks.map PyData.str)) = true := canLay_strs ks h
  have e2 : PyData.depth (.list (ks.map PyData.str)) ≤ 64 := by
    have e3 := depth_strs ks
    simp only [PyData.depth, e3]
    decide
  unfold SeqAt.shaped
  rw [e1, decide_eq_true e2]
  rfl
theorem eqv_strs {ks : List Str} (h : ∀ z ∈ ks, IsWord z) : PyData.eqv (.list (ks.map PyData.str)) (.list (ks.map PyData.str)) = true := PySem.SeqAt.eqv_refl _ (canLay_strs ks h)
theorem scalN {v : V} (h : IntN v) : scal v v = true := by
  rcases h with ⟨i, rfl⟩ | rfl <;> rfl
theorem src_ne_strs {H : Hp} {a l : Addr} {n : Nat} {ws : List Str} (hs : Src H a n) (hl : H l = some (.lst (ws.map V.str))) : l ≠ a := fun z => by
  obtain ⟨_, _, _, h, _⟩ := hs
  subst z
  rw [hl] at h
  have e := HO.lst.inj (Option.some.inj h)
  cases ws with
  | nil => cases e
  | cons z r => cases e
theorem str_it {a b : Str} {A B : Prop} (h1 : a = b → A) (h2 : a ≠ b → B) : if decide (V.str a = V.str b) = true then A else B := by
  by_cases e : a = b
  · rw [if_pos (by rw [decide_eq_true_eq, e])]; exact h1 e
  · rw [if_neg (by rw [decide_eq_true_eq]; exact fun z => e (V.str.inj z))]; exact h2 e
theorem dec_str {a b : Str} : decide (V.str a = V.str b) = decide (a = b) := by
  by_cases e : a = b
  · rw [decide_eq_true e, decide_eq_true (by rw [e])]
  · rw [decide_eq_false e, decide_eq_false fun z => e (V.str.inj z)]
/-- both branches come to R -/
theorem sq_ifj {c : TT} {t1 t2 u : TS} {D : Ends} {σ : L2.St} {H : Hp} (P : Bool → Hp → Prop) (R : Hp → Prop) (h : ∀ Q : Bool → Hp → Prop, (∀ b H', P b H' → Q b H') → c σ H Q) (kt : ∀ H', P true H' → ∀ D' : Ends, (∀ G, R G → D'.nx σ G) → t1 D' σ H') (kf : ∀ H', P false H' → ∀ D' : Ends, (∀ G, R G → D'.nx σ G) → t2 D' σ H')
    (k : ∀ G, R G → u D σ G) : tSeq (tIfS c t1 t2) u D σ H :=
  h _ fun b H' p => by
    cases b with
    | true => rw [if_pos rfl]; exact kt H' p _ k
    | false => rw [if_neg Bool.false_ne_true]; exact kf H' p _ k
theorem s1_do {te : TE} {D : Ends} {σ : L2.St} {H : Hp} (P : V → Hp → Prop) (h : ∀ Q : VK, (∀ x H', P x H' → Q x H') → te σ H Q) (k : ∀ x H', P x H' → D.nx σ H') : (tDrop te) D σ H := h _ k
theorem putK_new {kvs : List (Key × V)} {k : Key} {v : V} (h : k ∉ kvs.map (·.1)) : putK kvs k v = kvs ++ [(k, v)] := by
  unfold putK
  rw [if_neg]
  intro e
  obtain ⟨p, hp, e2⟩ := List.any_eq_true.mp e
  exact h (List.mem_map.mpr ⟨p, hp, of_decide_eq_true e2⟩)
theorem RowOk.snoc {kvs : List (Key × V)} {z : Str} {v : V} (h : RowOk kvs) (n : (Sum.inr z : Key) ∉ kvs.map (·.1)) (hz : IsWord z) (hv : IntN v) (l : kvs.length < 60) : RowOk (kvs ++ [(.inr z, v)]) := by
  obtain ⟨⟨ks, e, nd, w⟩, i, _⟩ := h
  refine ⟨⟨ks ++ [z], by rw [List.map_append, List.map_append, e]; rfl, ?_, fun y hy => ?_⟩, fun p hp => ?_, by rw [List.length_append]; show kvs.length + 1 ≤ 60; omega⟩
  · refine List.nodup_append.mpr ⟨nd, by simp, fun x hx y hy => ?_⟩
    rw [List.mem_singleton.mp hy]
    rintro rfl
    exact n (by rw [e]; exact List.mem_map.mpr ⟨x, hx, rfl⟩)
  · rcases List.mem_append.mp hy with m | m
    · exact w y m
    · rw [List.mem_singleton.mp m]; exact hz
  · rcases List.mem_append.mp hp with m | m
    · exact i p m
    · rw [List.mem_singleton.mp m]; exact hv
theorem RowOk.nil : RowOk [] := ⟨⟨[], rfl, List.nodup_nil, fun _ h => (List.not_mem_nil h).elim⟩, fun _ h => (List.not_mem_nil h).elim, Nat.zero_le _⟩
theorem mergeK_new : ∀ (more kvs : List (Key × V)), ((kvs ++ more).map (·.1)).Nodup → mergeK kvs more = kvs ++ more
  | [], kvs, _ => by rw [List.append_nil]; rfl
  | p :: r, kvs, h => by
    have h2 : ((kvs ++ [p]) ++ r) = kvs ++ p :: r := by simp
    have n : p.1 ∉ kvs.map (·.1) := fun m => by
      rw [List.map_append, List.map_cons] at h
      exact (List.nodup_append.mp h).2.2 p.1 m p.1 List.mem_cons_self rfl
    show mergeK (putK kvs p.1 p.2) r = _
    rw [putK_new n, ← h2]
    exact mergeK_new r (kvs ++ [p]) (by rw [h2]; exact h)
theorem RowOk.rev {kvs : List (Key × V)} (h : RowOk kvs) : RowOk kvs.reverse := by
  obtain ⟨⟨ks, e, n, w⟩, i, l⟩ := h
  refine ⟨⟨ks.reverse, by rw [List.map_reverse, e, List.map_reverse], List.Perm.nodup (List.reverse_perm ks).symm n, fun z hz => w z (List.mem_reverse.mp hz)⟩, fun p hp => i p (List.mem_reverse.mp hp), by rw [List.length_reverse]; exact l⟩
end Lw

set_option Elab.async false
set_option linter.all false
set_option maxRecDepth 100000
set_option maxHeartbeats 2000000
namespace Mk
open PySem PySem.Spec PyProof.Rows L2
/-! o.m(e, .., k = v, ..): some by place, the others by name -/
section
variable {X : Cx} {CX : CXT} {k n : Nat} {C f : Addr} {fd : FuncData} {ps ks : List PySem.Str} {sp : Sp} {E : XK} {o e : Expr} {es : List Expr} {kws : List Keyword} {m : PySem.Str} {pos apos : Pos} {ta : TE} {t tk : TA} {pl : Sem Bool} {g : List Value → List Value → List Value} {gV : List V → List V → List V}
def tMethK (C : Addr) (m : PySem.Str) (n l : Nat) (sp : Sp) (gV : List V → List V → List V) (E : XK) (ta : TE) (t tk : TA) : TE := fun σ H Q => ta σ H fun x G => ∃ (a dx : Addr) (fs : List (PySem.Str × V)), x = .ref a ∧ G a = some (.ins C dx fs) ∧ fs.lookup m = none ∧ t σ G fun ys G1 => ys.length + 1 = n ∧ tk σ G1 fun zs G2 => zs.length = l ∧ sp (gV (.ref a :: ys) zs) G2 Q E
theorem pe_methK (he : PE X o ta) (c : Cls X.K C) (hm : Meth X.K C m f) (F : FnOk X.prog X.w X.K X.mg X.base CX k f fd ps sp) (hr : Room k X.A) (hb : KBn X.K fd ps n ks g gV) (hx : Passes CX X E) (ha : PA X (e :: es) t) (hkw : PK X kws tk)
    (hall : (backToKw pos (keywordEach kws X.env)).all (·.1.isSome) = true := by rfl) (hks : (backToKw pos (keywordEach kws X.env)).filterMap (·.1) = ks := by rfl)
    (hpl : ((backTo pos (starEach (e :: es) X.env)).any (·.1) || (backToKw pos (keywordEach kws X.env)).any (·.1.isNone)) = false := by rfl) (hs : starEach (e :: es) X.env = (false, eval e X.env) :: starEach es X.env := by rfl)
    (ht : eval (.Call (.Attribute o m apos) (e :: es) kws pos) X.env = (do
      let a ← eval o X.env
      standAt apos.atName
      let (f, first) ← holding [a] (getMethod a m pl)
      callWith pos f first (backTo pos (starEach (e :: es) X.env)) (backToKw pos (keywordEach kws X.env))) := by rfl) :
    PE X (.Call (.Attribute o m apos) (e :: es) kws pos) (tMethK C m n ks.length sp gV E ta t tk) := by
  constructor
  intro pins s σ H Q I h
  refine PySem.W.methodCall_KW (pl := pl) (thn (he.run pins s σ H _ I h) ?_) ht
  rintro u s1 ⟨x, G, I1, rx, a, dx, fs, rfl, ea, l, q⟩
  obtain rfl : u = Value.ref a := rx
  refine getmeth_ok I1 ea c hm l ?_
  refine PySem.W.callWith_KW (first := [.ref a]) (h₀ := X.base) I1.ok.mod.kin hm.kp hall (thn (ha.run pos pins s1 σ G _ I1 q) ?_) hpl hs
  rintro us s2 ⟨ys, G1, I2, ry, l1, q1⟩
  refine thn (hkw.run pos pins s2 σ G1 _ I2 q1) ?_
  rintro ws s3 ⟨zs, G2, I3, rz, l2, q2⟩
  refine ⟨I3.kIn, ?_⟩
  rw [hks]
  have all : Vals (V.ref a :: ys) (Value.ref a :: us) := .cons (show RelV (.ref a) (Value.ref a) from rfl) ry
  have r2 := hb.rel all rz
  have bt := hb.to s3 (Value.ref a :: us) ws I3.kIn (by rw [List.length_cons, ← ry.length]; exact l1) (rz.length.symm.trans l2)
  refine wpAny_call (codeAny_mono (F.run X.A X.stack s3 G2 ⟨Value.ref a :: us, ks.zip ws⟩ (g (Value.ref a :: us) ws) (gV (V.ref a :: ys) zs) Q E hr I3.env0 bt r2 q2) ?_)
  intro r s' hq
  match r, hq with
  | .error e, hq => exact hx pins σ G2 s3 e s' I3 hq
  | .ok (.ret u), hq => exact I3.after hq
  | .ok .next, hq => exact hq.elim
  | .ok .brk, hq => exact hq.elim
  | .ok .cont, hq => exact hq.elim
/-- what is never reached -/
theorem ps_nev {X : Cx} {st : Stmt} : PS X st (fun _ _ _ => False) := ⟨fun _ _ _ _ _ _ h => h.elim⟩
end
end Mk

set_option Elab.async false
set_option linter.all false
set_option maxRecDepth 100000
set_option maxHeartbeats 4000000
namespace Iw
open PySem PySem.Spec PyProof.Rows L2 PySem.SeqAt
/-! any plain value in a list or a tuple of texts -/
section
variable {A : Around} {s : Shared}
theorem str_no {z : Str} {u : Tok} {d : Addr} {es : Array DictEntry} {ep : Nat} {dd : Option Addr} {sl : Array (Option Value)} : Meets (Builtin.«str.__eq__» ⟨[.str z u, .ref d], []⟩) (fun _ R s => s.heap.get? d = some ⟨.type "dict", dd, .dict es ep, sl⟩ ∧ R (.ok (.ret .notImplemented)) s) :=
  .of_wp fun prog w A R s h => by
    obtain ⟨hp, g, dr, tk, os⟩ := s
    obtain ⟨there, h⟩ := h
    have no := F.sub_dict_str
    wp_walk using wpAny_loadPart' there, wpAny_load there
    exact ⟨_, rfl, h⟩
theorem dict_no {z : Str} {u : Tok} {d : Addr} {es : Array DictEntry} {ep : Nat} {dd : Option Addr} {sl : Array (Option Value)} : Meets (Builtin.«dict.__eq__» ⟨[.ref d, .str z u], []⟩) (fun _ R s => s.heap.get? d = some ⟨.type "dict", dd, .dict es ep, sl⟩ ∧ R (.ok (.ret .notImplemented)) s) :=
  .of_wp fun prog w A R s h => by
    obtain ⟨hp, g, dr, tk, os⟩ := s
    obtain ⟨there, h⟩ := h
    have no := F.sub_str_dict
    wp_walk using wpAny_loadPart' there, wpAny_load there
    exact ⟨_, rfl, h⟩
theorem str_dict {z : Str} {u : Tok} {d : Addr} {es : Array DictEntry} {ep : Nat} {dd : Option Addr} {sl : Array (Option Value)} (there : s.heap.get? d = some ⟨.type "dict", dd, .dict es ep, sl⟩) (room : A.units < cLine) : EqAt A s (.str z u) (.ref d) false := fun prog w E Q h => by
  unfold eqBool
  refine wpAny_holding (wpAny_ite_split (fun e => absurd (eq_of_beq e) nofun) fun _ => wpAny_bind ?_)
  exact rc_eq_decline_or (k := false) (typeIs_str s z u) ⟨_, there, rfl⟩ (by decide) F.sub_dict_str F.slot_str_eq F.slot_dict_eq_refl
    (fun _ q => call_meets F.slot_str_eq (typeIs_str s z u) F.entry_str_eq (F.args_str_eq_2 _ _) str_no ⟨there, q⟩)
    (fun _ q => call_meets F.slot_dict_eq_refl ⟨_, there, rfl⟩ F.entry_dict_eq (F.args_dict_eq_2 _ _) dict_no ⟨there, q⟩)
    (fun _ q => wpAny_of_eq (rfl : isSame (.str z u) (.ref d) = pure false) q) (.inr room) (wpAny_truthy_bool h)
end
end Iw
namespace Iw
open PySem PySem.Spec PyProof.Rows L2 PySem.SeqAt
section
variable {X : Cx}
/-- a list, a tuple, a dict -/
inductive Box (H : Hp) (a : Addr) : Prop where
  | lst {xs : List V} (h : H a = some (.lst xs)) : Box H a
  | tup {xs : List V} (h : H a = some (.tup xs)) : Box H a
  | dic {kvs : List (Key × V)} (h : H a = some (.dK kvs)) : Box H a
def rInW (K : PySem.W.Frag) (neg : Bool) : R2 := fun x y H Q => ∃ (p : Addr) (ts : List Str), y = .ref p ∧ (SqL K H p (ts.map V.str) ∨ SqT K H p (ts.map V.str)) ∧
  ((flatV x = true ∧ Q (.bl (if neg then !inV x (ts.map V.str) else inV x (ts.map V.str))) H) ∨ (∃ a, x = .ref a ∧ Box H a ∧ Q (.bl neg) H))
theorem box_eq {pins : List (Addr × Obj)} {σ : L2.St} {H : Hp} {s : Shared} (I : Inv X pins σ H s) {B : Around} (room : B.units < cLine) {a : Addr} (b : Box H a) (z : Str) (u : Tok) : EqAt B s (.str z u) (.ref a) false := by
  cases b with
  | lst h =>
    obtain ⟨its, rv, pl, hz⟩ := I.list (SqL.of h)
    exact EqAt.str_list z u pl.isList room
  | tup h =>
    obtain ⟨its, rv, pt, hz⟩ := I.tuple (SqT.of h)
    exact EqAt.str_tuple z u pt room
  | dic h =>
    obtain ⟨hz, hs0, vs, kv, o, es, ep, there, ex, da, _⟩ := I.hok a _ h
    obtain ⟨c, dd, d0, sl⟩ := o
    obtain ⟨e1, e2, e3⟩ := ex
    simp only at e1 da
    subst e1 da
    exact str_dict there room
theorem texts_no {pins : List (Addr × Obj)} {σ : L2.St} {H : Hp} {s : Shared} (I : Inv X pins σ H s) {B : Around} (room : B.units < cLine) {a : Addr} (b : Box H a) : ∀ {ts : List Str} {us : List Value}, Vals (ts.map V.str) us → ∀ v ∈ us, EqAt B s v (.ref a) ((fun _ => false) v)
  | [], _, .nil => fun v hv => by cases hv
  | z :: ts, u :: us, .cons r t => fun v hv => by
    rcases List.mem_cons.mp hv with rfl | hv
    · obtain ⟨k, rfl⟩ := r
      exact box_eq I room b z k
    · exact texts_no I room b t v hv
theorem op_inW (hu : X.A.units + 64 < cLine) : OpR X (compareOp .In) (rInW X.K false) := by
  intro pins s σ H x y v u Q I rx ry ⟨p, ts, e, hq, h⟩
  rcases h with ⟨fx, q⟩ | ⟨a, rfl, b, q⟩
  · exact op_in_seq pins s σ H x y v u Q I rx ry ⟨p, _, e, hq, fx, Lw.flat_strs ts, q⟩
  · subst e
    cases ry
    cases rx
    rcases hq with hq | hq
    · obtain ⟨its, r, pl, hz⟩ := I.list hq
      refine SeqAt.in_listAt (fun _ => false) pl.isList (fun w hw => texts_no I (by show X.A.units + 1 < cLine; omega) b r w (by simpa using hw)) ⟨.bl _, H, I, rfl, ?_⟩
      rw [show its.toArray.any (fun _ => false) = false by simp]
      exact q
    · obtain ⟨its, r, pl, hz⟩ := I.tuple hq
      refine SeqAt.in_tupleAt (fun _ => false) pl (fun w hw => texts_no I (by show X.A.units + 1 < cLine; omega) b r w (by simpa using hw)) ⟨.bl _, H, I, rfl, ?_⟩
      rw [show its.toArray.any (fun _ => false) = false by simp]
      exact q
theorem op_notInW (hu : X.A.units + 64 < cLine) : OpR X (compareOp .NotIn) (rInW X.K true) := by
  intro pins s σ H x y v u Q I rx ry ⟨p, ts, e, hq, h⟩
  rcases h with ⟨fx, q⟩ | ⟨a, rfl, b, q⟩
  · exact op_notIn_seq pins s σ H x y v u Q I rx ry ⟨p, _, e, hq, fx, Lw.flat_strs ts, q⟩
  · subst e
    cases ry
    cases rx
    rcases hq with hq | hq
    · obtain ⟨its, r, pl, hz⟩ := I.list hq
      refine SeqAt.notIn_listAt (fun _ => false) pl.isList (fun w hw => texts_no I (by show X.A.units + 1 < cLine; omega) b r w (by simpa using hw)) ⟨.bl _, H, I, rfl, ?_⟩
      rw [show its.toArray.any (fun _ => false) = false by simp]
      exact q
    · obtain ⟨its, r, pl, hz⟩ := I.tuple hq
      refine SeqAt.notIn_tupleAt (fun _ => false) pl (fun w hw => texts_no I (by show X.A.units + 1 < cLine; omega) b r w (by simpa using hw)) ⟨.bl _, H, I, rfl, ?_⟩
      rw [show its.toArray.any (fun _ => false) = false by simp]
      exact q
end
end Iw

set_option Elab.async false
set_option linter.all false
set_option maxRecDepth 100000
set_option maxHeartbeats 1000000
namespace Kd
open PySem PySem.Spec PyProof.Rows L2
/-! for x in D, D a dict of the module's own top with texts as keys -/
structure KyD (K : PySem.W.Frag) (w : World) (d : Addr) (zs : List Str) : Prop where
  ex : ∃ es n, KDict K w d es n ∧ es.size = zs.length ∧ ∀ (i : Nat) (e : DictEntry), es[i]? = some e → ∃ z t, zs[i]? = some z ∧ e.key = .str z t
def Itc (zs : List Str) : It := ⟨fun i _ => i < zs.length, fun i G x G2 => G2 = G ∧ ∃ z, zs[i]? = some z ∧ x = .str z, fun i _ => zs.length ≤ i⟩
def iKd (d : Addr) (zs : List Str) (td : TE) : TI := fun σ G R => td σ G fun x G1 => x = .ref d ∧ R (Itc zs) G1
section
variable {PR : Program} {wo : World} {KF : PySem.W.Frag} {tt : Expr} {dd : Addr} {zs : List Str} {es : Array DictEntry} {n : Nat}
theorem turn_kd (ir : Addr) (D : KDict KF wo dd es n) (hz : es.size = zs.length) (hk : ∀ (i : Nat) (e : DictEntry), es[i]? = some e → ∃ z t, zs[i]? = some z ∧ e.key = .str z t) :
    Turn PR wo KF tt (Itc zs) [ir] ir (fun i hp => hp.IsKeyIter ir dd i zs.length n) where
  mem := List.mem_singleton.mpr rfl
  obj := fun i hp q b mb => by
    rw [List.mem_singleton.mp mb]
    obtain ⟨ob, e1, e2, e3⟩ := q
    exact ⟨ob, e1, fun v y => by rw [e3] at y; cases y⟩
  keep := fun i h1 h2 q kp => q.at fun ob e1 => kp ir (List.mem_singleton.mpr rfl) ob e1
  item := by
    intro X e1 e2 e3 cm i ps s σ G EX I fo st go
    subst e1 e2 e3
    have gi : i < es.size := by rw [hz]; exact go
    obtain ⟨a0, a1, a2, a3, a4, a5⟩ := fo ir (List.mem_singleton.mpr rfl)
    have he : es[i]? = some es[i] := Array.getElem?_eq_getElem gi
    obtain ⟨z, t, q1, q2⟩ := hk i _ he
    refine next_key_item st (I.kIn _ _ D.at_) rfl hz he fun h' st' sb => ?_
    have J : Inv X ps σ G { s with heap := h' } := I.turned (t' := s.toks) (fun b ob mb e => (sb.2 b mb).trans e) a0 a1 a3 a4 a5
    obtain ⟨ob, b1, b2, b3⟩ := id st'
    refine ⟨es[i].key, rfl, ?_⟩
    exact go_of (s := { s with heap := h' }) b1 b2 b3 (by decide) ⟨.str z, G, J, ⟨t, q2⟩, ⟨rfl, z, q1, rfl⟩, st', fun b mb => (fo b mb).1⟩
  done := by
    intro X e1 e2 e3 cm i ps s σ G EX I fo st go
    subst e1 e2 e3
    obtain ⟨a0, a1, a2, a3, a4, a5⟩ := fo ir (List.mem_singleton.mpr rfl)
    exact next_key_end (I.ok.hd cm) st (I.kIn _ _ D.at_) rfl hz go fun h' eb => ⟨rfl, I.turned (t' := s.toks) (fun b ob mb e => eb b ob mb e) a0 a1 a3 a4 a5⟩
  self := fun A i s Q E st go => wpAny_pyIter_keyiter st go
end
theorem pi_kd {X : Cx} {tg e : Expr} {td : TE} {d : Addr} {zs : List Str} (D : KyD X.K X.w d zs) (he : PE X e td) : PI X tg e (iKd d zs td) := by
  obtain ⟨es, n, KD, hz, hk⟩ := D.ex
  refine ⟨fun ps s σ G R I h => ?_⟩
  refine thn (he.run ps s σ G _ I h) fun u s1 ⟨x, G1, I1, rx, ex, q⟩ => ?_
  subst ex
  obtain rfl : u = Value.ref d := rx
  refine iter_keys KD.low (I1.kIn _ _ KD.at_) ⟨rfl, rfl, rfl⟩ rfl ?_
  exact pi_one (tk := s1.toks) I1 _ (turn_kd _ KD hz hk) ⟨_, Heap.get?_push_size _ rfl, rfl, by rw [hz] <;> rfl⟩ q
theorem walk_kd {zs : List Str} : Walk (Itc zs) zs.length (fun _ => True) (fun i G x G2 => G2 = G ∧ ∃ z, zs[i]? = some z ∧ x = .str z) :=
  ⟨fun _ _ h _ => h, fun _ _ => Nat.le_refl _, fun _ _ _ _ _ _ y => y⟩
end Kd

set_option Elab.async false
set_option linter.all false
set_option maxRecDepth 100000
set_option maxHeartbeats 4000000
namespace PySem
namespace Ge
open Builtin Builtin.ObjectAttr
/-! own errors under any base: own classes, then the base's row -/
def tailB (tl : List Value) : List Value → Bool
  | .ref _ :: r => tailB tl r
  | l => l == tl
theorem tail_cut {tl : List Value} : ∀ l : List Value, tailB tl l = true → ∃ cs : List Addr, l = cs.map Value.ref ++ tl
  | [], h => ⟨[], beq_iff_eq.mp h⟩
  | v :: r, h => by
    match v, h with
    | .ref c, h =>
      obtain ⟨cs, e⟩ := tail_cut (tl := tl) r h
      exact ⟨c :: cs, by rw [e]; rfl⟩
    | .none, h | .ellipsis, h | .notImplemented, h | .bool _, h | .int _ _, h | .float _ _, h | .str _ _, h | .bytes _ _, h | .type _, h | .builtin _, h => exact ⟨[], beq_iff_eq.mp h⟩
/-- what a base's row must do -/
structure Tl (tl : List Value) : Prop where
  pass : ∀ self : Value, refuseLoop self "__setattr__" tl = pure ()
  obj : tl.contains (.type "object") = true
theorem row_contains {tl l : List Value} (h : tailB tl l = true) (T : String) : l.contains (.type T) = tl.contains (.type T) := by
  obtain ⟨cs, rfl⟩ := tail_cut l h
  induction cs with
  | nil => rfl
  | cons c cs ih =>
    rw [List.map_cons, List.cons_append, List.contains_cons, ih (by
      have h' : tailB tl (Value.ref c :: (cs.map Value.ref ++ tl)) = true := h
      exact h')]
    rfl
theorem row_pass {tl l : List Value} (t : Tl tl) (self : Value) (h : tailB tl l = true) : refuseLoop self "__setattr__" l = pure () := by
  obtain ⟨cs, rfl⟩ := tail_cut l h
  clear h
  induction cs with
  | nil => exact t.pass self
  | cons c cs ih =>
    show refuseLoop self "__setattr__" (Value.ref c :: (cs.map Value.ref ++ tl)) = _
    rw [refuseLoop_ref]
    exact ih
theorem row_some {tl l : List Value} (t : Tl tl) (h : tailB tl l = true) : l.isEmpty = false := by
  cases l with
  | nil =>
    have e : ([] : List Value) = tl := beq_iff_eq.mp h
    have o := t.obj
    rw [← e] at o
    cases o
  | cons _ _ => rfl
section
variable {prog : Program} {w : World} {A : Around} {R : Result → Shared → Prop} {hp : Heap} {g : Array GenState} {d : Drawn} {t : Nat} {os : OsState}
/-- object.__setattr__ on an error that has no dict yet -/
theorem first_field {tl : List Value} (T : Tl tl) {K : W.Frag} {name : Str} {tk : Tok} {v : Value} {x C : Addr} {fv : Array Value} {cd : ClassData} (KI : K.In hp) (here : hp.get? x = some { cls := .ref C, data := .fields fv }) (cls : W.clsIn K C = some cd)
    (row : tailB tl cd.mro = true) (dict : cd.hasDict = true) (no : W.findIn K (.ref C) name = some none)
    (out : ∀ h' tk' dx, (∀ b o, b ≠ x → hp.get? b = some o → h'.get? b = some o) → hp.objs.size ≤ dx → dx ≠ x → h'.get? x = some { cls := .ref C, dict := some dx, data := .fields fv } → h'.Ns1 dx (fun y => if y = name then some v else none) →
      R (.ok (.ret .none)) ⟨h', g, d, tk', os⟩) : codeAny (model prog w) A (.call (.builtin "object.__setattr__") ⟨[.ref x, .str name tk, v], []⟩) R ⟨hp, g, d, t, os⟩ := by
  have at_ : W.InstAt hp x { cls := .ref C, data := .fields fv } C none := ⟨here, rfl, rfl, trivial⟩
  have facts := F.store_object
  have some_ := row_some T row
  have below : cd.mro.contains (.type "object") = true := by rw [row_contains row "object"]; exact T.obj
  have apart : x ≠ hp.objs.size := Nat.ne_of_lt (Heap.lt_size here)
  have mem : W.mroIn K C (.type "object") = some true := by
    unfold W.mroIn
    rw [cls, Option.bind_some, if_neg (by rw [some_]; decide), below]
  have isObj : W.Looks (model prog w) hp (isInstance (.ref x) (.type "object")) true := at_.type.andThen (W.looks_mroIn KI mem)
  refine codeAny_call_builtin facts.slot.plain facts.entry ?_
  refine @W.check_slot (model prog w) _ _ ⟨hp, g, d, t, os⟩ "object.__setattr__" "object" "__setattr__" (.ref x) [.str name tk, v] [] _ facts.kind facts.split isObj (facts.args (.ref x) (.str name tk) v) ?_
  have rowL : W.Looks (model prog w) hp (mroOf (.ref C)) cd.mro := (W.looks_clsIn KI cls).andThen .now
  have taker : W.Looks (model prog w) hp (storeTaker? none) none := .now
  have dataL : W.Looks (model prog w) hp (classData C) cd := W.looks_clsIn KI cls
  rw [W.osa_eq, refuse_eq]
  refine wpAny_bind (wpAny_bind (at_.type.at (wpAny_bind (rowL.at ?_))))
  rw [row_pass T _ row]
  refine wpAny_pure (wpAny_bind (at_.type.at (wpAny_bind ((W.looks_findIn KI no).at (wpAny_bind (taker.at ?_))))))
  show wpAny _ _ (storeInOwnDict (.ref x) (.ref C) (.str name tk) name v false) _ _ _
  obtain ⟨c1, c2, c3, c4, c5, c6, c7, c8, c9, c10, c11⟩ := cd
  cases (show c6 = true from dict)
  unfold storeInOwnDict
  unfold ownDictForStores
  repeat (first | with_reducible refine HandSPX.store_in_new ?_ ?_ | with_reducible refine wpAny_loadPart_at here ?_ | with_reducible refine dataL.at ?_ | wp_step)
  · exact ⟨_, #[], _, (Heap.get?_update_ne _ _ _ _ apart.symm).trans (Heap.get?_push_at rfl rfl), rfl, fun e he => absurd he (by simp), fun _ => rfl⟩
  · intro h' tk' ns same
    have here2 : (hp.push { cls := .type "dict", data := .dict #[] }).get? x = some { cls := .ref C, data := .fields fv } := Heap.get?_push_of_some _ here
    apply out h' tk' hp.objs.size _ (Nat.le_refl _) apart.symm _ ns
    · intro b o n q
      have n2 : b ≠ hp.objs.size := Nat.ne_of_lt (Heap.lt_size q)
      rw [same.2 b n2, Heap.get?_update_ne _ _ _ _ n]
      exact Heap.get?_push_of_some _ q
    · rw [same.2 x apart]
      exact Heap.get?_update_self _ here2 rfl
end
end Ge
end PySem
namespace Ge
open PySem PySem.Spec PyProof.Rows L2
/-- an own error class with an own __init__, over any base -/
structure OexT (K : PySem.W.Frag) (C : Addr) (tl : List Value) (newId : String) : Prop where
  base : PySem.Ge.Tl tl
  cls : ∃ nm q N bs bm sn sub ab col dd k0 k1 k2 k3 k5, K.lookup C = some (excClassObj nm q C N bs bm true sn sub ab col dd k0 k1 k2 k3 k5 newId) ∧ PySem.Ge.tailB tl bm = true
  sa : PySem.W.findIn K (.ref C) "__setattr__" = some (some (.builtin "object.__setattr__"))
  exC : PySem.W.subIn K (.ref C) (.type "BaseException") = some true
  tyC : PySem.W.typeIn K (.ref C) = some (.type "type")
  kC : PySem.W.keepIn K (.ref C) = true
section
variable {X : Cx} {pins : List (Addr × Obj)} {σ : L2.St} {H : Hp} {s : Shared} {a C : Addr} {tl : List Value} {newId : String} {f : Str} {y : V} {u : Value} {Q : Unit → Shared → Prop} {E : Value → Shared → Prop} {A : Around}
theorem other_obj {H : Hp} {a b : Addr} {o u : HO} (ha : H a = some o) (hb : H b = some u) (d : o ≠ u) : b ≠ a := by
  rintro rfl
  rw [ha] at hb
  cases hb
  exact d rfl
/-- its first field is set -/
theorem set_first (T : OexT X.K C tl newId) (I : Inv X pins σ H s) (e : H a = some (exo a C none)) (no : PySem.W.findIn X.K (.ref C) f = some none) (ry : RelV y u)
    (out : ∀ dx s', H dx = none → dx ≠ a → Inv X pins σ (upd (upd H dx (exd dx [(f, y)])) a (exo a C (some dx))) s' → Q () s') : wpAny (model X.prog X.w) A (setAttr (.ref a) f u) Q E s := by
  obtain ⟨nm, q, N, bs, bm, sn, sub, ab, col, dd, k0, k1, k2, k3, k5, at_, row⟩ := T.cls
  have data : PySem.W.clsIn X.K C = some { name := nm, bases := bs, mro := .ref C :: bm, ns := N, qualname := q, hasDict := true, slotNames := sn, subclasses := sub, abstract := ab, collection := col, hasDel := false } := by
    unfold PySem.W.clsIn
    rw [at_]
  obtain ⟨t1, ho⟩ := exo_at I.hok e
  obtain ⟨hp, g, d, t, os⟩ := s
  refine PySem.W.set_plain I.kIn (ox := { cls := .ref C, dict := none, data := .fields #[.ref t1, .none, .none, .none, .bool false, .none] }) (od := none) ⟨ho, rfl, rfl, trivial⟩ T.sa ?_
  apply PySem.Ge.first_field T.base I.kIn ho data (show PySem.Ge.tailB tl (.ref C :: bm) = true from row) rfl no
  intro h' tk' dx kept fresh ne here ns
  have free : H dx = none := I.hok.fresh fresh
  have below : ∀ {b : Addr} {o : Obj}, hp.get? b = some o → b ≠ dx := fun q => Nat.ne_of_lt (Nat.lt_of_lt_of_le (Heap.lt_size q) fresh)
  have off : ∀ {b : Addr}, H b = none → b ≠ a := by
    rintro b n rfl
    exact absurd (e.symm.trans n) (by simp)
  have at2 : ∀ {b : Addr} {o : HO}, H b = some o → exo a C none ≠ o → (upd (upd H dx (exd dx [(f, y)])) a (exo a C (some dx))) b = some o := fun {b o} q n => by
    rw [upd_ne (other_obj e q n), upd_ne (ne_of_none q free)]
    exact q
  refine out dx _ free ne (I.un (t' := tk') ?_ ?_)
  · exact
      { keep := fun b o q n _ _ => kept b o (off n) q
        slot := fun b o q n _ _ => ⟨o.slots, kept b o (off n) q⟩
        free := fun b o q n _ => by
          rw [upd_ne (off n), upd_ne (below q)]
          exact n
        there := fun b o q _ => by
          rcases Decidable.em (b = a) with rfl | hb
          · exact ⟨_, here⟩
          · exact ⟨o, kept b o hb q⟩
        tups := fun b xs q => at2 q exo_tup
        frzs := fun b o v q => at2 q exo_frz
        tbls := fun b ps q => ⟨#[], by rw [at2 q exo_tbl]; simp⟩ }
  · intro b o q
    rcases Decidable.em (b = a) with rfl | hb
    · rw [upd_same] at q
      cases q
      exact exo_ok here
    rw [upd_ne hb] at q
    rcases Decidable.em (b = dx) with rfl | hd
    · rw [upd_same] at q
      cases q
      exact exd_ok ns (relO_put (fs := []) ry fun _ => trivial)
    rw [upd_ne hd] at q
    refine (I.hok b o q).stay (fun c v hc z => kept c v ?_ z) (fun c hc => at2 hc exo_own) (fun c xs hc => at2 hc exo_tup)
    rcases hc with rfl | hc
    · exact hb
    · exact other_obj e hc exo_own
end
/-- self.f = e, the first field of such an error -/
def tOstT (K : PySem.W.Frag) (f : Str) (to te : TE) : TS := fun D σ H => te σ H fun y H1 => to σ H1 fun x H2 => ∃ (a C : Addr) (tl : List Value) (newId : String), x = .ref a ∧ OexT K C tl newId ∧ PySem.W.findIn K (.ref C) f = some none ∧ H2 a = some (exo a C none) ∧
  ∀ dx, H2 dx = none → dx ≠ a → D.nx σ (upd (upd H2 dx (exd dx [(f, y)])) a (exo a C (some dx)))
section
variable {X : Cx} {o e : Expr} {f : Str} {p' pos : Pos} {to te : TE}
theorem ps_ostT (ho : PE X o to) (he : PE X e te) (hs : swapsWith e (some (.Attribute o f p')) pos.line X.env = pure false := by rfl) : PS X (.Assign [.Attribute o f p'] e pos) (tOstT X.K f to te) := by
  constructor
  intro pins s σ H D I h
  refine plainObj_wpAny_Assign_Attribute (thn (he.run pins s σ H _ I h) ?_) hs
  rintro v s1 ⟨y, H1, I1, r1, q1⟩
  refine thn (ho.run pins s1 σ H1 _ I1 q1) ?_
  rintro u s2 ⟨x, H2, I2, r2, a, C, tl, newId, rfl, T, no, ea, q⟩
  obtain rfl : u = Value.ref a := r2
  exact set_first T I2 ea no r1 fun dx s' n ne J => ⟨σ, _, J, q dx n ne⟩
end
section
variable {X : Cx} {CX : CXT} {x : Str} {e : Expr} {es : List Expr} {ta : TA} {p pos : Pos} {C fI : Addr} {k : Nat} {fd : FuncData} {ps : List Str} {sp : Sp} {ds : List Value} {dvs : List V} {tl : List Value} {B newId initId : String}
/-- such an error, made: its context is None -/
theorem pmk_T (F : ExcBaseFacts B newId initId tl) (T : OexT X.K C tl newId) (iC : PySem.W.findIn X.K (.ref C) "__init__" = some (some (.ref fI))) (tI : PySem.W.typeIn X.K (.ref fI) = some (.type "function")) (F1 : FnOk X.prog X.w X.K X.mg X.base CX k fI fd ps sp) (hr : Room (k + 1) X.A) (hb : Binds X.K fd ps ds)
    (hd : Vals dvs ds) (hx : Passes CX X (fun _ _ _ => False)) (hm : X.mg x = some (.ref C)) (ha : PA X (e :: es) ta) (hg : Gl X x := by rfl) (hdb : (x == ("__debug__" : Str)) = false := by decide) (he : starEach (e :: es) X.env = (false, eval e X.env) :: starEach es X.env := by rfl)
    (hpl : (backTo pos (starEach es X.env)).any (·.1) = false := by rfl) : L2N.PMk X (.Call (.Name x p) (e :: es) [] pos) (tMkO C sp dvs ta) := fun pins s σ H Q I h => by
  obtain ⟨nm, qn, N, bs, bm, sn, sub, ab, col, dd, k0, k1, k2, k3, k5, hC, row⟩ := T.cls
  refine wpAny_Call_Name_kw (ld_glob I hg hm (PySem.W.callWith_K (h₀ := X.base) I.ok.mod.kin T.kC (thn (ha.run pos pins s σ H _ I h) fun us st ⟨vs, H1, J, rv, hz, q1⟩ => ⟨J.kIn, ?_⟩) he hpl) hdb)
  show wpAny _ _ (call (.ref C) us) _ _ _
  obtain ⟨hp, g, dr, tk, os⟩ := st
  have up : hp.objs.size ≤ hp.objs.size + 1 := by omega
  have spec := q1 (hp.objs.size + 1) (J.hok.fresh up)
  have stay : ∀ b o, hp.get? b = some o → ((hp.push (PySem.W.kdv_tup us)).push (PySem.HandSPX.excO C hp.objs.size)).get? b = some o := fun b o z => Heap.get?_push_of_some _ (Heap.get?_push_of_some _ z)
  have there : ((hp.push (PySem.W.kdv_tup us)).push (PySem.HandSPX.excO C hp.objs.size)).get? (hp.objs.size + 1) = some (PySem.HandSPX.excO C hp.objs.size) := by heap_get
  have J2 := J.laid (t' := tk) (a := hp.objs.size + 1) (o := exo (hp.objs.size + 1) C none) (h' := (hp.push (PySem.W.kdv_tup us)).push (PySem.HandSPX.excO C hp.objs.size)) stay up (exo_ok there)
  have rel : Vals (V.ref (hp.objs.size + 1) :: (vs ++ dvs)) (Value.ref (hp.objs.size + 1) :: (us ++ ds)) := .cons rfl (rv.append hd)
  have len : (Value.ref (hp.objs.size + 1) :: us ++ ds).length = ps.length := (F1.len _ _ _ _ spec ▸ rel.length).symm
  have line : us.length ≤ sizeLine := by rw [← Paired.length rv, sizeLine_eq]; omega
  refine wpAny_call (PySem.HandSPX.call_own F (PySem.Ge.row_contains row) (J.kIn _ _ hC) (PySem.W.looks_findIn J.kIn iC) (fun self => PySem.W.bind_fn J.kIn self tI) line
    (codeAny_mono (F1.run _ X.stack _ _ ⟨Value.ref (hp.objs.size + 1) :: us, []⟩ (Value.ref (hp.objs.size + 1) :: (us ++ ds)) _ _ (fun _ _ _ => False) (hr.make C us []) (J2.env0.make C us []) (hb _ (Value.ref (hp.objs.size + 1) :: us) J2.kIn len) rel spec) fun r s' back => ?_))
  match r, back with
  | .error er, back => exact hx pins σ _ _ er s' J2 back
  | .ok .next, back => exact back.elim
  | .ok .brk, back => exact back.elim
  | .ok .cont, back => exact back.elim
  | .ok (.ret u), back =>
    obtain ⟨v, H2, os2, bare2, un2, hok2, rv2, ev, d, fs, ea, ed, hd1, q2⟩ := back
    subst ev
    obtain ⟨h2, g2, d2, t2, os'⟩ := s'
    obtain ⟨t0, G, JG, kG, ge, hoe, na⟩ := mk_end0 (d2 := d2) (t2 := t2) J up stay un2 hok2 os2 bare2 ea ed hd1
    exact ⟨rv2, _, _, _, ⟨G, g2, d2, t2, os'⟩, _, .ref C, some d, rfl, JG, kG, ge, hoe, ⟨rfl, rfl, fun z ez => by cases ez; rfl⟩, rfl, rfl, na, rfl, bare2, raises_own T.exC T.tyC, q2⟩
end
abbrev leTail : List Value := [.type "LookupError", .type "Exception", .type "BaseException", .type "object"]
abbrev rtTail : List Value := [.type "RuntimeError", .type "Exception", .type "BaseException", .type "object"]
abbrev vlTail : List Value := [.type "ValueError", .type "Exception", .type "BaseException", .type "object"]
theorem tl_le : PySem.Ge.Tl leTail := ⟨PySem.F.store_LookupError.passes, by decide +kernel⟩
theorem tl_rt : PySem.Ge.Tl rtTail := ⟨PySem.F.store_RuntimeError.passes, by decide +kernel⟩
theorem tl_vl : PySem.Ge.Tl vlTail := ⟨PySem.F.store_ValueError.passes, by decide +kernel⟩
end Ge

set_option Elab.async false
set_option linter.all false
set_option maxRecDepth 100000
set_option maxHeartbeats 4000000
namespace PySem
namespace Gf
open Builtin Builtin.ObjectAttr
section
variable {prog : Program} {w : World} {A : Around} {R : Result → Shared → Prop} {hp : Heap} {g : Array GenState} {d : Drawn} {t : Nat} {os : OsState}
/-- object.__setattr__ on an own error that has its dict, over any base -/
theorem next_field {tl : List Value} (T : Ge.Tl tl) {K : W.Frag} {name : Str} {tk : Tok} {v : Value} {x C dx : Addr} {fv : Array Value} {cd : ClassData} {m0 : Str → Option Value} {nl : List Str} (KI : K.In hp) (here : hp.get? x = some { cls := .ref C, dict := some dx, data := .fields fv })
    (hns : hp.Ns1 dx m0) (hw : Within m0 nl) (hz : nl.length ≤ 1000) (cls : W.clsIn K C = some cd) (row : Ge.tailB tl cd.mro = true) (dict : cd.hasDict = true) (no : W.findIn K (.ref C) name = some none)
    (out : ∀ h' tk', (∀ b o, b ≠ dx → hp.get? b = some o → h'.get? b = some o) → h'.Ns1 dx (fun y => if y = name then some v else m0 y) → R (.ok (.ret .none)) ⟨h', g, d, tk', os⟩) :
    codeAny (model prog w) A (.call (.builtin "object.__setattr__") ⟨[.ref x, .str name tk, v], []⟩) R ⟨hp, g, d, t, os⟩ := by
  obtain ⟨oD, esD, epD, hoD, hdD, _⟩ := hns.count hw
  have at_ : W.InstAt hp x { cls := .ref C, dict := some dx, data := .fields fv } C (some oD) := ⟨here, rfl, rfl, hoD⟩
  have facts := F.store_object
  have some_ := Ge.row_some T row
  have below : cd.mro.contains (.type "object") = true := by rw [Ge.row_contains row "object"]; exact T.obj
  have mem : W.mroIn K C (.type "object") = some true := by
    unfold W.mroIn
    rw [cls, Option.bind_some, if_neg (by rw [some_]; decide), below]
  have isObj : W.Looks (model prog w) hp (isInstance (.ref x) (.type "object")) true := at_.type.andThen (W.looks_mroIn KI mem)
  refine codeAny_call_builtin facts.slot.plain facts.entry ?_
  refine @W.check_slot (model prog w) _ _ ⟨hp, g, d, t, os⟩ "object.__setattr__" "object" "__setattr__" (.ref x) [.str name tk, v] [] _ facts.kind facts.split isObj (facts.args (.ref x) (.str name tk) v) ?_
  have rowL : W.Looks (model prog w) hp (mroOf (.ref C)) cd.mro := (W.looks_clsIn KI cls).andThen .now
  have taker : W.Looks (model prog w) hp (storeTaker? none) none := .now
  have dataL : W.Looks (model prog w) hp (classData C) cd := W.looks_clsIn KI cls
  rw [W.osa_eq, refuse_eq]
  refine wpAny_bind (wpAny_bind (at_.type.at (wpAny_bind (rowL.at ?_))))
  rw [Ge.row_pass T _ row]
  refine wpAny_pure (wpAny_bind (at_.type.at (wpAny_bind ((W.looks_findIn KI no).at (wpAny_bind (taker.at ?_))))))
  show wpAny _ _ (storeInOwnDict (.ref x) (.ref C) (.str name tk) name v false) _ _ _
  obtain ⟨c1, c2, c3, c4, c5, c6, c7, c8, c9, c10, c11⟩ := cd
  cases (show c6 = true from dict)
  unfold storeInOwnDict ownDictForStores
  repeat (first | with_reducible refine PySem.OEX.store_in_old hns hw hz ?_ | with_reducible refine wpAny_loadPart_at here ?_ | with_reducible refine dataL.at ?_ | wp_step)
  intro h' tk' hn' hs
  exact out h' tk' (fun b o hb ho => (hs.2 b hb).trans ho) hn'
end
end Gf
end PySem
namespace Gf
open PySem PySem.Spec PyProof.Rows L2 Ge
section
variable {X : Cx} {pins : List (Addr × Obj)} {σ : L2.St} {H : Hp} {s : Shared} {a C dx : Addr} {fs : List (Str × V)} {tl : List Value} {newId : String} {f : Str} {y : V} {u : Value} {Q : Unit → Shared → Prop} {E : Value → Shared → Prop} {A : Around}
theorem set_next (T : OexT X.K C tl newId) (I : Inv X pins σ H s) (e : H a = some (exo a C (some dx))) (ed : H dx = some (exd dx fs)) (hl : fs.length ≤ 900) (no : PySem.W.findIn X.K (.ref C) f = some none) (ry : RelV y u)
    (h : ∀ s', Inv X pins σ (upd H dx (exd dx ((f, y) :: fs))) s' → Q () s') : wpAny (model X.prog X.w) A (setAttr (.ref a) f u) Q E s := by
  obtain ⟨nm, q, N, bs, bm, sn, sub, ab, col, dd, k0, k1, k2, k3, k5, hC, row⟩ := T.cls
  have hcl : PySem.W.clsIn X.K C = some { name := nm, bases := bs, mro := .ref C :: bm, ns := N, qualname := q, hasDict := true, slotNames := sn, subclasses := sub, abstract := ab, collection := col, hasDel := false } := by
    unfold PySem.W.clsIn
    rw [hC]
  obtain ⟨t1, ho⟩ := exo_at I.hok e
  obtain ⟨mA, hns, rel⟩ := exd_at I.hok ed
  have hw := within_of rel
  obtain ⟨hp, g, d, t, os⟩ := s
  obtain ⟨oD, _, _, hoD, _, _⟩ := hns.count hw
  refine PySem.W.set_plain I.kIn (ox := { cls := .ref C, dict := some dx, data := .fields #[.ref t1, .none, .none, .none, .bool false, .none] }) (od := some oD) ⟨ho, rfl, rfl, hoD⟩ T.sa ?_
  refine PySem.Gf.next_field T.base I.kIn ho hns hw (by rw [List.length_map]; omega) hcl (show PySem.Ge.tailB tl (.ref C :: bm) = true from row) rfl no (fun h' tk' k hn => ?_)
  have hd : ∃ o, h'.get? dx = some o := by
    obtain ⟨o, _, _, e', _⟩ := hn
    exact ⟨o, e'⟩
  exact h _ (I.write (t' := tk') (x := dx) (e := dx) (o := exd dx ((f, y) :: fs)) (by rw [ed]; exact True.intro) (.inl rfl) k hd (exd_ok hn (relO_put ry rel)))
end
/-- self.f = e, a later field of such an error -/
def tOstN (K : PySem.W.Frag) (f : Str) (to te : TE) : TS := fun D σ H => te σ H fun y H1 => to σ H1 fun x H2 => ∃ (a C dx : Addr) (fs : List (Str × V)) (tl : List Value) (newId : String), x = .ref a ∧ OexT K C tl newId ∧ PySem.W.findIn K (.ref C) f = some none ∧ H2 a = some (exo a C (some dx)) ∧ H2 dx = some (exd dx fs) ∧ fs.length ≤ 900 ∧
  D.nx σ (upd H2 dx (exd dx ((f, y) :: fs)))
section
variable {X : Cx} {o e : Expr} {f : Str} {p' pos : Pos} {to te : TE}
theorem ps_ostN (ho : PE X o to) (he : PE X e te) (hs : swapsWith e (some (.Attribute o f p')) pos.line X.env = pure false := by rfl) : PS X (.Assign [.Attribute o f p'] e pos) (tOstN X.K f to te) := by
  constructor
  intro pins s σ H D I h
  refine plainObj_wpAny_Assign_Attribute (thn (he.run pins s σ H _ I h) ?_) hs
  rintro v s1 ⟨y, H1, I1, r1, q1⟩
  refine thn (ho.run pins s1 σ H1 _ I1 q1) ?_
  rintro u s2 ⟨x, H2, I2, r2, a, C, dx, fs, tl, newId, rfl, T, no, ea, ed, hl, q⟩
  obtain rfl : u = Value.ref a := r2
  exact set_next T I2 ea ed hl no r1 fun s' J => ⟨σ, _, J, q⟩
end
end Gf

set_option Elab.async false
set_option linter.all false
set_option maxRecDepth 100000
set_option maxHeartbeats 4000000
namespace Tr
open PySem PySem.Spec PyProof.Rows L2
/-! rules that the terms of filters need -/
section
variable {X : Cx}
def b2n (b : Bool) : Int := if b = true then 1 else 0
/-- bool - bool -/
theorem op_subBl : OpR X (binaryOp .Sub) (fun x y H Q => ∃ a b : Bool, x = .bl a ∧ y = .bl b ∧ Q (.int (b2n a - b2n b)) H) := by
  intro pins s σ H x y v u Q I rx ry h
  obtain ⟨a, b, rfl, rfl, q⟩ := h
  cases (show v = Value.bool a from rx)
  cases (show u = Value.bool b from ry)
  exact PyProof.Rows.sub_bool ⟨.int _, H, I.tok _, ⟨_, rfl⟩, q⟩
/-- x is b, x None or a bool, b a bool -/
theorem op_isNb : OpR X (compareOp .Is) (fun x y H Q => ∃ (a : Option Bool) (b : Bool), x = (match a with | some c => .bl c | none => .non) ∧ y = .bl b ∧ Q (.bl (decide (a = some b))) H) := by
  intro pins s σ H x y v u Q I rx ry h
  obtain ⟨a, b, rfl, rfl, q⟩ := h
  cases (show u = Value.bool b from ry)
  cases a with
  | none =>
    cases (show v = Value.none from rx)
    exact wpAny_is_other rfl (fun z => by cases z) ⟨.bl false, H, I, rfl, by simpa using q⟩
  | some c =>
    cases (show v = Value.bool c from rx)
    by_cases e : c = b
    · subst e
      exact wpAny_is_self rfl ⟨.bl true, H, I, rfl, by simpa using q⟩
    · exact wpAny_is_other rfl (fun z => e (Value.bool.inj z)) ⟨.bl false, H, I, rfl, by simpa [e] using q⟩
/-- d[k], d a written dict -/
def tKd (K : PySem.W.Frag) (d : Addr) (td ty : TE) : TE := fun σ H Q => td σ H fun x H1 => ty σ H1 fun y H2 => ∃ (z : Str) (u0 : Value) (v0 : V), x = .ref d ∧ y = .str z ∧ PySem.W.nsIn K d z = some (some u0) ∧ RelV v0 u0 ∧ Q v0 H2
theorem pe_kd {o i : Expr} {pos : Pos} {td ty : TE} {d : Addr} {es : Array DictEntry} {n : Nat} (D : KDict X.K X.w d es n) (ho : PE X o td) (hi : PE X i ty) (hs : NoSl i) : PE X (.Subscript o i pos) (tKd X.K d td ty) := by
  constructor
  intro pins s σ H Q I h
  refine subD_of PySem.F.slot_dict_getitem.lookup hs (thn (ho.run pins s σ H _ I h) ?_)
  rintro u s1 ⟨x, H1, I1, rx, q1⟩
  refine thn (hi.run pins s1 σ H1 _ I1 q1) ?_
  rintro iv s2 ⟨y, H2, I2, ry, z, u0, v0, rfl, rfl, e, r, q⟩
  obtain rfl : u = Value.ref d := rx
  exact ⟨kd_type D I2, op_item_kd D pins s2 σ H2 (.ref d) (.str z) (.ref d) iv Q I2 rfl ry ⟨z, u0, v0, rfl, rfl, e, r, q⟩⟩
end
end Tr

set_option Elab.async false
set_option linter.all false
set_option maxRecDepth 100000
set_option maxHeartbeats 40000000
namespace Lw
open PySem PySem.Spec PyProof.Rows L2
def top (i : Nat) : Stmt := PySem.Challenge.pw_filteredcopies_k15_targets.main.body.getD i (.Pass ⟨0, 0, 0, 0⟩)
abbrev sCopied : Stmt := top 4
section
variable {P : Program} {w : World} {K : PySem.W.Frag} {mg : Str → Option Value} {base : Heap}
theorem itTb {b : Bool} {A B : Prop} (h : b = true) (a : A) : if b = true then A else B := by rw [if_pos h]; exact a
theorem itFb {b : Bool} {A B : Prop} (h : b = false) (a : B) : if b = true then A else B := by rw [h, if_neg Bool.false_ne_true]; exact a
/-! copied, of what an error keeps -/
def NotT (K : PySem.W.Frag) (H : Hp) (v : V) (c : String) : Prop := ∃ t, TyX K H v t ∧ PySem.W.kitOne K t (.type c) = some false
def Plain3 (K : PySem.W.Frag) (H : Hp) (v : V) : Prop := NotT K H v "list" ∧ NotT K H v "tuple" ∧ NotT K H v "dict"
theorem plain_int {H : Hp} {v : V} (h : IntN v) : Plain3 K H v := by
  rcases h with ⟨i, rfl⟩ | rfl
  · exact ⟨⟨_, ty_int i, kit_ty (by decide +kernel)⟩, ⟨_, ty_int i, kit_ty (by decide +kernel)⟩, ⟨_, ty_int i, kit_ty (by decide +kernel)⟩⟩
  · exact ⟨⟨_, ty_non, kit_ty (by decide +kernel)⟩, ⟨_, ty_non, kit_ty (by decide +kernel)⟩, ⟨_, ty_non, kit_ty (by decide +kernel)⟩⟩
structure TxtCo (mg : Str → Option Value) : Prop where
  isi : mg "isinstance" = none
  list : mg "list" = none
  tuple : mg "tuple" = none
  dict : mg "dict" = none
def spCopF (K : PySem.W.Frag) : Sp := fun vs H Q _ => ∃ v : V, vs = [v] ∧ Plain3 K H v ∧ Q v H
abbrev nCopied : List Str := ["value", "part", "name"]
theorem scCopied : FnScope nCopied ["value"] (defScope sCopied) := ⟨rfl, rfl, rfl, by decide +kernel, rfl, by decide +kernel, by decide +kernel⟩
theorem ok_copF {f : Addr} {fd : FuncData} (F : FnP K "copied" sCopied f fd) (T : TxtCo mg) : FnOk P w K mg base CX0 1 f fd ["value"] (spCopF K) := by
  refine F.ok scCopied (fun vs H Q E h => ?_) (fun cdv A outer s H vs Q E hr h => ?_)
  · obtain ⟨v, rfl, _⟩ := h
    rfl
  · obtain ⟨v, rfl, ⟨⟨t1, h1, k1⟩, ⟨t2, h2, k2⟩, ⟨t3, h3, k3⟩⟩, k⟩ := h
    refine ⟨_, PSs.nox (pss_cons (ps_if (pt_val (pe_callB call_isi (by rfl) T.isi (by decide +kernel) (pa_cons (pv 0) (pa_cons (pe_bltn (v := .ty "list") (by rfl) T.list (by decide +kernel) rfl) pa_nil)))) (pss_one ps_never) pss_nil)
      (pss_cons (ps_if (pt_val (pe_callB call_isi (by rfl) T.isi (by decide +kernel) (pa_cons (pv 0) (pa_cons (pe_bltn (v := .ty "tuple") (by rfl) T.tuple (by decide +kernel) rfl) pa_nil)))) (pss_one ps_never) pss_nil)
      (pss_cons (ps_if (pt_val (pe_callB call_isi (by rfl) T.isi (by decide +kernel) (pa_cons (pv 0) (pa_cons (pe_bltn (v := .ty "dict") (by rfl) T.dict (by decide +kernel) rfl) pa_nil)))) (pss_one ps_never) pss_nil)
      (pss_one (ps_ret (pv 0)))))), ?_⟩
    exact ⟨_, rfl, _, _, _, _, false, rfl, .ty _, h1, k1, false, rfl, itFb rfl ⟨_, rfl, _, _, _, _, false, rfl, .ty _, h2, k2, false, rfl, itFb rfl ⟨_, rfl, _, _, _, _, false, rfl, .ty _, h3, k3, false, rfl, itFb rfl ⟨_, rfl, k⟩⟩⟩⟩
/-! the four habits and their values -/
def habVals : List (Str × List Str) := [("present", ["stop", "keep", "replace", "merge"]), ("lacking", ["stop", "skip", "make"]), ("gone", ["stop", "skip"]), ("shared", ["one", "all"])]
abbrev habNames : List Str := ["present", "lacking", "gone", "shared"]
structure HabV (K : PySem.W.Frag) (w : World) (mg : Str → Option Value) (dV : Addr) : Prop where
  gV : mg "VALUES" = some (.ref dV)
  ky : Kd.KyD K w dV habNames
  at_ : ∀ q ∈ habVals, ∃ a, KDct K w dV q.1 (.ref a) ∧ ∀ H, SqT K H a (q.2.map V.str)
/-! the law's own words for habits -/
def valsOf (h : Str) : List Str := if h = "present" then ["stop", "keep", "replace", "merge"] else if h = "lacking" then ["stop", "skip", "make"] else if h = "gone" then ["stop", "skip"] else ["one", "all"]
/-! a value of any kind; whether it is one of some texts -/
inductive PlV (a : Addr) (H : Hp) : V → Prop where
  | str (z : Str) : PlV a H (.str z)
  | non : PlV a H .non
  | int (i : Int) : PlV a H (.int i)
  | bl (b : Bool) : PlV a H (.bl b)
  | box {p : Addr} (n : p ≠ a) (b : Iw.Box H p) : PlV a H (.ref p)
theorem PlV.keep {a : Addr} {H G : Hp} {v : V} (k : Keep a H G) (h : PlV a H v) : PlV a G v := by
  cases h with
  | str z => exact .str z
  | non => exact .non
  | int i => exact .int i
  | bl b => exact .bl b
  | box n b =>
    cases b with
    | lst h => exact .box n (.lst (k _ _ n h))
    | tup h => exact .box n (.tup (k _ _ n h))
    | dic h => exact .box n (.dic (k _ _ n h))
theorem PlV.ext {a : Addr} {H G : Hp} {v : V} (k : ∀ b o, H b = some o → (∀ ps, o ≠ .tbl ps) → G b = some o) (h : PlV a H v) : PlV a G v := by
  cases h with
  | str z => exact .str z
  | non => exact .non
  | int i => exact .int i
  | bl b => exact .bl b
  | box n b =>
    cases b with
    | lst h => exact .box n (.lst (k _ _ h fun ps z => by cases z))
    | tup h => exact .box n (.tup (k _ _ h fun ps z => by cases z))
    | dic h => exact .box n (.dic (k _ _ h fun ps z => by cases z))
theorem PlV.same {a : Addr} {H G : Hp} {v : V} (s : Same H G) (h : PlV a H v) : PlV a G v := h.ext fun b o e _ => s b o e
def gdL (ts : List Str) : V → Bool
  | .str z => decide (z ∈ ts)
  | _ => false
theorem inV_no {v : V} (h : ∀ z, eqV (.str z) v = false) (ts : List Str) : inV v (ts.map V.str) = false := by
  induction ts with
  | nil => rfl
  | cons z ts ih =>
    show (eqV (.str z) v || inV v (ts.map V.str)) = false
    rw [h z, ih]
    rfl
/-- v not in ts -/
theorem notIn_of {K : PySem.W.Frag} {a p : Addr} {H : Hp} {v : V} {ts : List Str} {Q : VK} (h : PlV a H v) (hq : SqL K H p (ts.map V.str) ∨ SqT K H p (ts.map V.str)) (q : Q (.bl (!gdL ts v)) H) : Iw.rInW K true v (.ref p) H Q := by
  cases h with
  | str z => exact ⟨p, ts, rfl, hq, .inl ⟨rfl, by rw [if_pos rfl, inV_str]; exact q⟩⟩
  | non => exact ⟨p, ts, rfl, hq, .inl ⟨rfl, by rw [if_pos rfl, inV_no (fun _ => rfl)]; exact q⟩⟩
  | int i => exact ⟨p, ts, rfl, hq, .inl ⟨rfl, by rw [if_pos rfl, inV_no (fun _ => rfl)]; exact q⟩⟩
  | bl b => exact ⟨p, ts, rfl, hq, .inl ⟨rfl, by rw [if_pos rfl, inV_no (fun _ => rfl)]; exact q⟩⟩
  | box n b => exact ⟨p, ts, rfl, hq, .inr ⟨_, rfl, b, q⟩⟩
/-- the four values -/
structure Hv where
  pr : V
  la : V
  go : V
  sh : V
def Hv.of (y : Hv) (h : Str) : V := if h = "present" then y.pr else if h = "lacking" then y.la else if h = "gone" then y.go else y.sh
def gd (y : Hv) (h : Str) : Bool := gdL (valsOf h) (y.of h)
def wrongs (y : Hv) : List Str := habNames.filter fun h => !gd y h
structure PlH (a : Addr) (H : Hp) (y : Hv) : Prop where
  pr : PlV a H y.pr
  la : PlV a H y.la
  go : PlV a H y.go
  sh : PlV a H y.sh
theorem PlH.of {a : Addr} {H : Hp} {y : Hv} (h : PlH a H y) (n : Str) : PlV a H (y.of n) := by
  unfold Hv.of
  split
  · exact h.pr
  split
  · exact h.la
  split
  · exact h.go
  · exact h.sh
theorem PlH.keep {a : Addr} {H G : Hp} {y : Hv} (k : Keep a H G) (h : PlH a H y) : PlH a G y := ⟨h.pr.keep k, h.la.keep k, h.go.keep k, h.sh.keep k⟩
theorem PlH.same {a : Addr} {H G : Hp} {y : Hv} (k : Same H G) (h : PlH a H y) : PlH a G y := ⟨h.pr.same k, h.la.same k, h.go.same k, h.sh.same k⟩
theorem PlH.ext {a : Addr} {H G : Hp} {y : Hv} (k : ∀ b o, H b = some o → (∀ ps, o ≠ .tbl ps) → G b = some o) (h : PlH a H y) : PlH a G y := ⟨h.pr.ext k, h.la.ext k, h.go.ext k, h.sh.ext k⟩
theorem wrongs_nil {y : Hv} : wrongs y = [] ↔ ∀ h ∈ habNames, gd y h = true := by
  unfold wrongs
  rw [List.filter_eq_nil_iff]
  exact ⟨fun h x hx => by simpa using h x hx, fun h x hx => by simp [h x hx]⟩
/-- the first wrong one -/
theorem wrongs_at {y : Hv} {i : Nat} {z : Str} (hz : habNames[i]? = some z) (before : ∀ j x, j < i → habNames[j]? = some x → gd y x = true) (no : gd y z = false) : ∃ r, wrongs y = z :: r := by
  obtain ⟨hi, e⟩ := List.getElem?_eq_some_iff.mp hz
  have e2 : habNames = habNames.take i ++ (z :: habNames.drop (i + 1)) := by rw [← e, List.getElem_cons_drop, List.take_append_drop]
  refine ⟨(habNames.drop (i + 1)).filter fun h => !gd y h, ?_⟩
  unfold wrongs
  rw [e2, List.filter_append, List.filter_cons_of_pos (by simp [no])]
  rw [List.filter_eq_nil_iff.mpr fun x hx => ?_, List.nil_append]
  · congr 1
    rw [← e2]
  · obtain ⟨j, hj, ej⟩ := List.mem_iff_getElem.mp hx
    rw [List.length_take] at hj
    have := before j x (by omega) (by rw [← ej, List.getElem_take, List.getElem?_eq_getElem])
    simp [this]
end
end Lw

set_option Elab.async false
set_option linter.all false
set_option maxRecDepth 100000
set_option maxHeartbeats 4000000
namespace Lg
open PySem PySem.Spec PyProof.Rows L2
/-! promises of defs that are called where no guard of repr stands -/
structure FnG (P : Program) (w : World) (K : PySem.W.Frag) (mg : Str → Option Value) (base : Heap) (X0 : CXT) (k : Nat) (f : Addr) (fd : FuncData) (ps : List Str) (sp : Sp) : Prop where
  few : ∀ vs H Q E, sp vs H Q E → vs.length = ps.length
  goes : ∀ (A : Around) (fs : List Env) (s : Shared) (H : Hp) (ar : Args) (us : List Value) (vs : List V) (Q : VK) (E : XK), A.guards = some [] → Room k A → Env0 P w K mg base A fs s H → BindsTo s fd ar (ps.zip us) →
    Vals vs us → sp vs H Q E → codeAny (model P w) A (.call (.ref f) ar) (CR X0 fs P w H s Q E) s
section
variable {P : Program} {w : World} {K : PySem.W.Frag} {mg : Str → Option Value} {base : Heap} {X0 : CXT} {k : Nat} {x qual : Str} {params : Arguments} {bd : List Stmt} {scope : Scope} {dvs : List V} {kws : List (Str × V)} {f : Addr} {fd : FuncData} {N ps : List Str} {sp : Sp}
theorem FnG.of (F : FnOk P w K mg base X0 k f fd ps sp) : FnG P w K mg base X0 k f fd ps sp := ⟨F.len, fun A fs s H ar us vs Q E _ => F.run A fs s H ar us vs Q E⟩
/-- such a def's body -/
theorem okG (F : FunD K x qual params bd scope dvs kws f fd) (S : FnScope N ps scope) (few : ∀ vs H Q E, sp vs H Q E → vs.length = ps.length)
    (does : ∀ (cd : Value) (A : Around) (fs : List Env) (s : Shared) (H : Hp) (vs : List V) (Q : VK) (E : XK), (A.deeper (envOfC qual scope s.heap.objs.size f cd)).guards = some [] → Room k (A.deeper (envOfC qual scope s.heap.objs.size f cd)) → sp vs H Q E →
      ∃ t, PSs (cxOf X0 P w K mg base N qual scope f cd A fs s H E) bd t ∧ t { nx := fun _ G => Q .non G, rt := Q } (start N vs) H) : FnG P w K mg base X0 (k + 1) f fd ps sp := by
  obtain ⟨oc, od, dV, kV, doc, pm, an, cd, ct, sl, rfl, here, code, _, _⟩ := F.ex
  constructor
  · exact few
  intro A fs s H ar us vs Q E g room e0 bt rel pr
  have inK : K.In s.heap := e0.mod.kin.keeps fun b o q => (e0.bs b o q).1
  have free : s.heap.NoLimit := e0.mod.nolimit.keeps fun b o q => (e0.bs b o q).1
  have kinds : ∀ y ∈ ps.zip us, scope.names.lookup y.1 = some .local ∨ (scope.names.lookup y.1 = some .cell ∧ ((cellsFrom (s.heap.objs.size + 1) scope.names []).lookup y.1).isSome = true) := by
    rintro ⟨n, v⟩ hy
    have hn := S.par n (List.of_mem_zip hy).1
    exact hn.imp id fun q => ⟨q, PySem.W.cellsFrom_some _ _ _ (.inl q)⟩
  refine codeAny_call_function room.depth (inK _ _ here) rfl S.co S.gen rfl (PySem.W.codeRec_of inK code) (bt _ _ _ _ (wpAny_newFunctionEnv_cells S.kind kinds ?_))
  intro env he s1 st
  cases he
  refine ⟨free.keeps st.toInCall.keep, codeAny_func ?_⟩
  obtain ⟨t, ht, go⟩ := does cd A fs s H vs Q E g (room.deeper _) pr
  have I : Inv (cxOf X0 P w K mg base N qual scope f cd A fs s H E) [] (start N vs) H s1 := inv_start S room.hd e0 (few _ _ _ _ pr) rel st
  have out : ∀ {σ : L2.St} {G : Hp} {v : V} {u : Value} {s2 : Shared}, Inv (cxOf X0 P w K mg base N qual scope f cd A fs s H E) [] σ G s2 → RelV v u → Q v G → CE fs P w H s Q u s2 := by
    intro σ G v u s2 J r q
    exact ⟨v, G, J.os, J.bare, J.base, J.hok, r, q⟩
  apply wpAny_mono (ht.run [] s1 (start N vs) H _ I go)
  · intro fl s2 z
    match fl, z with
    | .ret u, z => obtain ⟨v, σ, G, J, r, q⟩ := z; exact out J r q
    | .next, z => obtain ⟨σ, G, J, q⟩ := z; exact out (u := Value.none) J (show RelV V.non Value.none from rfl) q
    | .brk, z => obtain ⟨_, _, _, q⟩ := z; exact q.elim
    | .cont, z => obtain ⟨_, _, _, q⟩ := z; exact q.elim
  · exact fun _ _ z => z
end
/-! calls -/
structure CalG (P : Program) (w : World) (K : PySem.W.Frag) (mg : Str → Option Value) (base : Heap) (X0 : CXT) (x : Str) (k : Nat) (ps : List Str) (sp : Sp) : Prop where
  ex : ∃ f fd, mg x = some (.ref f) ∧ PySem.W.keepIn K (.ref f) = true ∧ FnG P w K mg base X0 k f fd ps sp ∧ Binds K fd ps []
section
variable {X : Cx} {x : Str} {p pos : Pos} {e : Expr} {es : List Expr} {t : TA} {k : Nat} {ps : List Str} {sp : Sp}
theorem pe_calG (c : CalG X.prog X.w X.K X.mg X.base CX0 x k ps sp) (gd : X.A.guards = some []) (hr : Room k X.A) (ha : PA X (e :: es) t) (hg : Gl X x := by rfl) (hdb : (x == ("__debug__" : Str)) = false := by decide)
    (he : starEach (e :: es) X.env = (false, eval e X.env) :: starEach es X.env := by rfl) (hpl : (backTo pos (starEach es X.env)).any (·.1) = false := by rfl) :
    PE X (.Call (.Name x p) (e :: es) [] pos) (tCall sp [] E0 t) := by
  obtain ⟨f, fd, hm, hk, F, b⟩ := c.ex
  constructor
  intro pins s σ H Q I h
  refine wpAny_Call_Name_kw (ld_glob I hg hm (PySem.W.callWith_K (h₀ := X.base) I.ok.mod.kin hk (thn (ha.run pos pins s σ H _ I h) ?_) he hpl) hdb)
  rintro us s1 ⟨vs, H1, I1, r, q⟩
  rw [List.append_nil] at q
  have n1 : us.length = ps.length := by rw [← r.length]; exact F.few _ _ _ _ q
  have b1 := b s1 us I1.kIn (by rw [List.append_nil]; exact n1)
  rw [List.append_nil] at b1
  refine ⟨I1.kIn, wpAny_call (codeAny_mono (F.goes X.A X.stack s1 H1 ⟨us, []⟩ us vs Q E0 gd hr I1.env0 b1 r q) ?_)⟩
  intro rr s2 z
  match rr, z with
  | .error e, z => exact z.elim
  | .ok (.ret u), z => exact I1.after z
  | .ok .next, z => exact z.elim
  | .ok .brk, z => exact z.elim
  | .ok .cont, z => exact z.elim
end
end Lg

set_option Elab.async false
set_option linter.all false
set_option maxRecDepth 100000
set_option maxHeartbeats 4000000
namespace Lg
open PySem PySem.Spec PyProof.Rows L2
/-- what a law's call comes to -/
abbrev Yes (s₁ : Shared) : Result → Shared → Prop := fun r s' => r = .ok (.ret (.bool true)) ∧ OldK s₁.heap s'.heap ∧ s'.os = s₁.os ∧ AllBare s'.gens
section
variable {P : Program} {w : World} {K : PySem.W.Frag} {mg mb : Str → Option Value} {X0 : CXT} {k : Nat} {fa a : Addr} {fd : FuncData} {x : Str} {sp : Sp} {s₁ : Shared} {vs : List Value} {ns : List Int}
/-- from a heap in which at most the script is told -/
theorem law_from (inK : K.In s₁.heap) (gl : s₁.heap.Ns mainGlobals mg) (bl : s₁.heap.Ns builtinsNs mb) (same : ∀ x : Str, x ≠ "__name__" → mb x = bootBuiltins x) (free : s₁.heap.NoLimit) (none_ : s₁.gens = #[])
    (script : s₁.heap.get? a = some { cls := .type "list", data := .seq vs.toArray }) (room : Room k callerA) (F : ∀ B : Heap, K.In B → B.Ns mainGlobals mg → FnG P w K mg B X0 k fa fd [x] sp)
    (bt : ∀ (s : Shared) (u : Value), BindsTo s fd ⟨[u], []⟩ [(x, u)]) (no : ∀ H e s', X0 [] H s₁ (fun _ _ _ => False) e s' → False) (H : Hp) (only : Only H) (pr : sp [.ref a] H (fun v _ => v = .bl true) fun _ _ _ => False)
    (ok : HOk P w H s₁.heap) (told : ∀ b u, H b = some u → b = a) (out : ∀ u, H a = some u → K.lookup a = none) : codeAny (model P w) callerA (.call (.ref fa) ⟨[.ref a], []⟩) (Yes s₁) s₁ := by
  have low : ∀ {b : Addr} {o : Obj}, s₁.heap.get? b = some o → (∀ u, H b ≠ some u) → (hidT s₁.heap H).get? b = some o := by
    intro b o q n
    refine hidT_get q ?_
    match hb : H b with
    | none => rfl
    | some u => exact absurd hb (n u)
  have names : ∀ {b : Addr} {m : Str → Option Value}, s₁.heap.Ns b m → (hidT s₁.heap H).Ns b m := by
    rintro b m ⟨o, es, ep, q, d, r⟩
    refine ⟨o, es, ep, low q fun u z => ?_, d, r⟩
    cases told b u z
    rw [script] at q
    cases q
    exact absurd (show Data.seq vs.toArray _ = Data.dict es ep from d) (fun z => by cases z)
  have inB : K.In (hidT s₁.heap H) := fun b o q => low (inK b o q) fun u z => by
    cases told b u z
    rw [out u z] at q
    cases q
  have md : Mod K mg (hidT s₁.heap H) := by
    obtain ⟨mc, c1, c2⟩ := free
    exact ⟨inB, names gl, ⟨mb, names bl, same⟩, ⟨mc, names c1, c2⟩⟩
  have nil : ∀ b : Addr, b ∉ frs ([] : List Env) := fun b z => by cases z
  have e0 : Env0 P w K mg (hidT s₁.heap H) callerA [] s₁ H := ⟨rfl, md, fun b o q => of_hidT q, Nat.le_of_eq (hidT_size _ _), trivial, fun b z => absurd z (nil b), ok, .of_eq none_⟩
  apply codeAny_mono ((F _ inB (names gl)).goes callerA [] s₁ H ⟨[.ref a], []⟩ [.ref a] [.ref a] _ _ rfl room e0 (bt s₁ (.ref a)) (.cons rfl .nil) pr)
  intro r s' z
  match r, z with
  | .error e, z => exact (no H e s' z).elim
  | .ok .next, z => exact z.elim
  | .ok .brk, z => exact z.elim
  | .ok .cont, z => exact z.elim
  | .ok (.ret u), z =>
    obtain ⟨v, G, os, bare, un, ok2, r2, q⟩ := z
    cases (show v = .bl true from q)
    cases (show u = Value.bool true from r2)
    refine ⟨rfl, OldK.of_keep ?_, os, bare⟩
    intro b o hb
    rcases only b with n | ⟨ob, xs, y⟩
    · exact un.keep b o hb n (nil b) (fun z => by cases z)
    · have y1 := (ok b _ y).1
      have y2 := (ok2 b _ (un.frzs b ob _ y)).1
      rw [hb] at y1
      cases y1
      exact y2
theorem law_goes (inK : K.In s₁.heap) (gl : s₁.heap.Ns mainGlobals mg) (bl : s₁.heap.Ns builtinsNs mb) (same : ∀ x : Str, x ≠ "__name__" → mb x = bootBuiltins x) (free : s₁.heap.NoLimit) (none_ : s₁.gens = #[])
    (script : s₁.heap.get? a = some { cls := .type "list", data := .seq vs.toArray }) (whole : IntsAre vs ns) (few : ns.length ≤ sizeLine) (room : Room k callerA) (F : ∀ B : Heap, K.In B → B.Ns mainGlobals mg → FnG P w K mg B X0 k fa fd [x] sp)
    (bt : ∀ (s : Shared) (u : Value), BindsTo s fd ⟨[u], []⟩ [(x, u)]) (pr : ∀ H : Hp, Only H → SqL K H a (ns.map V.int) → sp [.ref a] H (fun v _ => v = .bl true) fun _ _ _ => False)
    (no : ∀ H e s', X0 [] H s₁ (fun _ _ _ => False) e s' → False) : codeAny (model P w) callerA (.call (.ref fa) ⟨[.ref a], []⟩) (Yes s₁) s₁ := by
  have rel := vals_ints whole
  have n := whole.length
  by_cases hk : K.lookup a = none
  · have at_a : ∀ b : Addr, b = a → (if b = a then some (HO.frz { cls := .type "list", data := .seq vs.toArray } (.lst (ns.map V.int))) else none) = some (.frz { cls := .type "list", data := .seq vs.toArray } (.lst (ns.map V.int))) := fun b e => if_pos e
    have off : ∀ b : Addr, b ≠ a → (if b = a then some (HO.frz { cls := .type "list", data := .seq vs.toArray } (.lst (ns.map V.int))) else none) = none := fun b e => if_neg e
    have only : Only fun b => if b = a then some (HO.frz { cls := .type "list", data := .seq vs.toArray } (.lst (ns.map V.int))) else none := fun b => by
      rcases Decidable.em (b = a) with e | e
      · exact .inr ⟨_, _, at_a b e⟩
      · exact .inl (off b e)
    refine law_from inK gl bl same free none_ script room F bt no _ only (pr _ only (.inl (.inr ⟨_, at_a a rfl⟩))) ?_ ?_ fun _ _ => hk
    · intro b u z
      try dsimp only at z
      rcases Decidable.em (b = a) with e | e
      · rw [at_a b e] at z
        cases z
        cases e
        exact ⟨script, by rw [List.length_map]; exact few, vs, _, rel, script⟩
      · rw [off b e] at z
        cases z
    · intro b u z
      try dsimp only at z
      rcases Decidable.em (b = a) with e | e
      · exact e
      · rw [off b e] at z
        cases z
  · obtain ⟨o, ho⟩ := Option.ne_none_iff_exists'.mp hk
    have q := inK a o ho
    rw [script] at q
    cases q
    have only : Only fun _ => none := fun _ => .inl rfl
    refine law_from inK gl bl same free none_ script room F bt no _ only (pr _ only (.inr ⟨_, vs.toArray, _, ho, rfl, rfl, rfl, ?_, ?_⟩)) ?_ ?_ ?_
    · rw [List.size_toArray, n]; exact few
    · simpa using rel
    · exact fun b u z => nomatch (show (none : Option HO) = some u from z)
    · exact fun b u z => nomatch (show (none : Option HO) = some u from z)
    · exact fun u z => nomatch (show (none : Option HO) = some u from z)
end
/-- the goal that is left of a law -/
theorem walk_G {l : PySem.W.OpenLaw} {n k : Nat} {q : Program} {loose : List Str} {XP : (Str → Option Value) → Heap → Prop} {YP : World → Heap → Prop} {d : DefRec} {X0 : CXT} {x : Str} (hn : l.most = some n) (hn2 : n ≤ sizeLine) (hdf : d.params.defaults = []) (room : Room k callerA)
    (F : ∀ (w : World) (mg : Str → Option Value) (fa : Addr) (h : Heap), YP w h → h.Ns mainGlobals mg → mg d.name = some (.ref fa) → ∃ (K : PySem.W.Frag) (fd : FuncData) (sp : Sp), K.In h ∧ (∀ (s : Shared) (u : Value), BindsTo s fd ⟨[u], []⟩ [(x, u)]) ∧
      (∀ (H : Hp) (a : Addr) (ns : List Int), ns.length ≤ n → Only H → SqL K H a (ns.map V.int) → sp [.ref a] H (fun v _ => v = .bl true) fun _ _ _ => False) ∧ ∀ B : Heap, K.In B → B.Ns mainGlobals mg → FnG l.prog w K mg B X0 k fa fd [x] sp)
    (no : ∀ (H : Hp) (s : Shared) (e : Value) (s' : Shared), X0 [] H s (fun _ _ _ => False) e s' → False) : PySem.W.WalkO q loose XP YP l.row.toRowW d [] (fun f vs => PySem.call f vs) := by
  apply Att.attach_call hn hdf
  intro w s₀ s₁ mg mb fa o pm cd doc a vs ns G Y ho hd hcd hmg hobj hints hlen hg
  obtain ⟨K, fd, sp, inK, bt, pr, go⟩ := F w mg fa _ Y G.T.g hmg
  exact law_goes inK G.T.g G.T.b G.T.builtins G.T.nolimit hg hobj hints (Nat.le_trans hlen hn2) room go bt (fun H o s => pr H a ns hlen o s) fun H e s' => no H s₁ e s'
end Lg

set_option Elab.async false
set_option linter.all false
set_option maxRecDepth 100000
set_option maxHeartbeats 4000000
namespace Lg
open PySem PySem.Spec PyProof.Rows L2
/-! values as data, dicts too -/
def kD : Key → PyData
  | .inl i => .int i
  | .inr z => .str z
mutual
inductive Da (H : Hp) : V → PyData → Prop where
  | non : Da H .non .none
  | bl (b : Bool) : Da H (.bl b) (.bool b)
  | int (i : Int) : Da H (.int i) (.int i)
  | str (z : Str) : Da H (.str z) (.str z)
  | lst {a : Addr} {xs : List V} {ds : List PyData} (h : H a = some (.lst xs)) (all : DaAll H xs ds) : Da H (.ref a) (.list ds)
  | tup {a : Addr} {xs : List V} {ds : List PyData} (h : H a = some (.tup xs)) (all : DaAll H xs ds) : Da H (.ref a) (.tuple ds)
  | dic {a : Addr} {kvs : List (Key × V)} {ds : List PyData} (h : H a = some (.dK kvs)) (all : DaAll H (kvs.map (·.2)) ds) : Da H (.ref a) (.dict ((kvs.map fun p => kD p.1).zip ds))
inductive DaAll (H : Hp) : List V → List PyData → Prop where
  | nil : DaAll H [] []
  | cons {v : V} {vs : List V} {d : PyData} {ds : List PyData} (h : Da H v d) (all : DaAll H vs ds) : DaAll H (v :: vs) (d :: ds)
end
mutual
theorem Da.same {H G : Hp} (s : Same H G) : ∀ {v : V} {d : PyData}, Da H v d → Da G v d
  | _, _, .non => .non
  | _, _, .bl b => .bl b
  | _, _, .int i => .int i
  | _, _, .str z => .str z
  | _, _, .lst h all => .lst (s _ _ h) (DaAll.same s all)
  | _, _, .tup h all => .tup (s _ _ h) (DaAll.same s all)
  | _, _, .dic h all => .dic (s _ _ h) (DaAll.same s all)
theorem DaAll.same {H G : Hp} (s : Same H G) : ∀ {vs : List V} {ds : List PyData}, DaAll H vs ds → DaAll G vs ds
  | _, _, .nil => .nil
  | _, _, .cons h all => .cons (Da.same s h) (DaAll.same s all)
end
theorem DaAll.length {H : Hp} : ∀ {vs : List V} {ds : List PyData}, DaAll H vs ds → vs.length = ds.length
  | _, _, .nil => rfl
  | _, _, .cons _ all => by rw [List.length_cons, List.length_cons, DaAll.length all]
/-- the interpreter's own table of modules stands in K -/
def SysIn (K : PySem.W.Frag) : Prop := ∃ o, K.lookup sysModules = some o ∧ o.cls = .type "dict"
section
variable {X : Cx} {pins : List (Addr × Obj)} {σ : L2.St} {H : Hp} {s : Shared}
theorem key_reads {h : Heap} {k : Key} {u : Value} (e : (mixKind X.prog X.w).is k u = true) : Reads h u (kD k) [] := by
  rcases keyIs_shape e with ⟨i, t, rfl, rfl⟩ | ⟨z, t, rfl, rfl⟩
  · exact Reads.int i t
  · exact Reads.str z t
theorem ne_sys (I : Inv X pins σ H s) (y : SysIn X.K) {a : Addr} {o : Obj} (h : s.heap.get? a = some o) (c : o.cls ≠ .type "dict") : sysModules ≠ a := by
  rintro rfl
  obtain ⟨u, hu, cu⟩ := y
  have q := I.kIn _ _ hu
  rw [h] at q
  cases q
  exact c cu
theorem keys_read {h : Heap} : ∀ {es : List DictEntry} {kvs : List (Key × Value)}, Pairs (mixKind X.prog X.w) es kvs → ReadsAll h (es.map (·.key)) (kvs.map fun p => kD p.1) [] ∧ es.map (·.val) = kvs.map (·.2)
  | _, _, .nil => ⟨.nil, rfl⟩
  | _, _, .cons k v r => by
    obtain ⟨r1, r2⟩ := keys_read (h := h) r
    exact ⟨ReadsAll.cons (key_reads k) r1, by rw [List.map_cons, List.map_cons, r2, v]⟩
theorem kv_split : ∀ {kvs : List (Key × V)} {vs : List (Key × Value)}, KV kvs vs → vs.map (fun p => kD p.1) = kvs.map (fun p => kD p.1) ∧ Vals (kvs.map (·.2)) (vs.map (·.2))
  | _, _, .nil => ⟨rfl, .nil⟩
  | _, _, .cons h r => by
    obtain ⟨r1, r2⟩ := kv_split r
    exact ⟨by rw [List.map_cons, List.map_cons, r1, h.1], .cons h.2 r2⟩
theorem zip_fst : ∀ {as bs : List PyData}, as.length = bs.length → (as.zip bs).map (·.1) = as ∧ (as.zip bs).map (·.2) = bs
  | [], [], _ => ⟨rfl, rfl⟩
  | a :: as, b :: bs, h => by
    obtain ⟨r1, r2⟩ := zip_fst (as := as) (bs := bs) (by simpa using h)
    exact ⟨by rw [List.zip_cons_cons, List.map_cons, r1], by rw [List.zip_cons_cons, List.map_cons, r2]⟩
mutual
theorem Da.reads (I : Inv X pins σ H s) (y : SysIn X.K) : ∀ {v : V} {d : PyData} {u : Value}, Da H v d → RelV v u → ∃ as, Reads s.heap u d as ∧ sysModules ∉ as
  | _, _, u, .non, r => by cases (show u = Value.none from r); exact ⟨_, Reads.none, List.not_mem_nil⟩
  | _, _, u, .bl b, r => by cases (show u = Value.bool b from r); exact ⟨_, Reads.bool b, List.not_mem_nil⟩
  | _, _, u, .int i, r => by obtain ⟨t, e⟩ := (show ∃ t, u = Value.int i t from r); cases e; exact ⟨_, Reads.int i t, List.not_mem_nil⟩
  | _, _, u, .str z, r => by obtain ⟨t, e⟩ := (show ∃ t, u = Value.str z t from r); cases e; exact ⟨_, Reads.str z t, List.not_mem_nil⟩
  | _, _, u, .lst (a := a) (xs := xs) h all, r => by
    cases (show u = Value.ref a from r)
    obtain ⟨_, its, n, rv, ho⟩ := (show ObjOk X.prog X.w H s.heap a (.lst xs) from I.hok a _ h)
    obtain ⟨as, q, n1⟩ := DaAll.reads I y all rv
    refine ⟨_, Reads.list ho rfl rfl (by simpa using q), ?_⟩
    rintro (_ | _)
    · exact ne_sys I y ho (by simp) rfl
    · rename_i z; exact n1 z
  | _, _, u, .tup (a := a) (xs := xs) h all, r => by
    cases (show u = Value.ref a from r)
    obtain ⟨_, its, rv, o, ho, hc, n, hd⟩ := (show ObjOk X.prog X.w H s.heap a (.tup xs) from I.hok a _ h)
    obtain ⟨as, q, n1⟩ := DaAll.reads I y all rv
    exact ⟨_, Reads.tuple ho hc hd (by simpa using q), n1⟩
  | _, _, u, .dic (a := a) (kvs := kvs) (ds := ds) h all, r => by
    cases (show u = Value.ref a from r)
    obtain ⟨_, ns, vs, kv, o, es, ep, ho, hx, hd, _, ps, _⟩ := (show ObjOk X.prog X.w H s.heap a (.dK kvs) from I.hok a _ h)
    obtain ⟨k1, k2⟩ := keys_read (h := s.heap) ps
    obtain ⟨k3, k4⟩ := kv_split kv
    obtain ⟨as, q, n1⟩ := DaAll.reads I y all k4
    have ln : (kvs.map fun p => kD p.1).length = ds.length := by rw [List.length_map, ← all.length, List.length_map]
    obtain ⟨z1, z2⟩ := zip_fst ln
    refine ⟨_, Reads.dict ho hx.1 hd (as := []) (by rw [z1, ← k3]; exact k1) (by rw [z2, k2]; exact q), ?_⟩
    rintro (_ | _)
    · exact absurd ns (by simp)
    · rename_i z; exact n1 z
theorem DaAll.reads (I : Inv X pins σ H s) (y : SysIn X.K) : ∀ {vs : List V} {ds : List PyData} {us : List Value}, DaAll H vs ds → Vals vs us → ∃ as, ReadsAll s.heap us ds as ∧ sysModules ∉ as
  | _, _, _, .nil, .nil => ⟨_, ReadsAll.nil, List.not_mem_nil⟩
  | _, _, _, .cons h all, .cons r rs => by
    obtain ⟨as, q1, n1⟩ := Da.reads I y h r
    obtain ⟨bs, q2, n2⟩ := DaAll.reads I y all rs
    exact ⟨_, ReadsAll.cons q1 q2, fun z => (List.mem_append.mp z).elim n1 n2⟩
end
/-- repr of data -/
def rRepr : List V → Hp → VK → Prop := fun xs H Q => ∃ (v : V) (d : PyData), xs = [v] ∧ Da H v d ∧ d.showable = true ∧ d.depth ≤ 16 ∧ d.shown.length ≤ sizeLine ∧ Q (.str d.shown) H
theorem call_repr (y : SysIn X.K) (g : X.A.guards = some []) (room : X.A.units + 200 < cLine) : CallR X (.builtin "repr") rRepr := by
  intro pins s σ H xs us Q I r h
  obtain ⟨v, d, rfl, hd, hs, dp, sz, q⟩ := h
  obtain ⟨u, rfl, rv⟩ := vals1 r
  obtain ⟨as, rd, nm⟩ := Da.reads I y hd rv
  have big : ∀ b : Addr, u = .ref b → wpAny (model X.prog X.w) X.A (call (.builtin "repr") [u]) (EP X pins σ Q) X.xe s := by
    rintro b rfl
    exact PySem.repr_of_reads' rd hs (fun _ => nm) g (by omega) (fun _ _ e => e) (fun h' t tk kept => ⟨.str _, H, I.kept kept, ⟨t, rfl⟩, q⟩) sz
  cases hd with
  | non => cases (show u = Value.none from rv); exact PySem.P.repr_of_none ⟨.str "None", H, I.tok _, ⟨_, rfl⟩, q⟩
  | bl b => cases (show u = Value.bool b from rv); exact PySem.P.repr_of_bool ⟨.str _, H, I.tok _, ⟨_, rfl⟩, q⟩
  | int i => obtain ⟨t, e⟩ := (show ∃ t, u = Value.int i t from rv); cases e; exact PySem.P.repr_of_int (of_decide_eq_true hs) ⟨.str _, H, I.tok _, ⟨_, rfl⟩, q⟩
  | str z => obtain ⟨t, e⟩ := (show ∃ t, u = Value.str z t from rv); cases e; exact PySem.P.repr_of_str ⟨.str _, H, I.tok _, ⟨_, rfl⟩, q⟩ sz
  | lst h all => exact big _ rv
  | tup h all => exact big _ rv
  | dic h all => exact big _ rv
end
end Lg

set_option Elab.async false
set_option linter.all false
set_option maxRecDepth 100000
set_option maxHeartbeats 0
namespace Hb
open PySem PySem.Spec PyProof.Rows L2
/-! a Hook: facts, defs wherever they stand, one Bool more; the table of modules is seen too -/
abbrev Al : Type := He.AlD × Bool
def asB (g : Addr → Option Obj) (n : Nat) : List Addr := He5.asA g n ++ [sysModules]
def obG (n : Nat) (fa : List He.Fa) (fn : List He5.DefA) (own : PySem.W.Frag → Bool) (g : Addr → Option Obj) : Al := (He5.obsA fa fn (He.frG g (asB g n)), own (He.frG g (asB g n)))
def Says (fa : List He.Fa) (fn : List He5.DefA) (own : PySem.W.Frag → Bool) (K : PySem.W.Frag) : Prop := He5.SaysA fa fn K ∧ own K = true
def hook (n : Nat) (fa : List He.Fa) (fn : List He5.DefA) (own : PySem.W.Frag → Bool) : PySem.W.Hook where
  α := Al
  obs := fun s => obG n fa fn own s.heap.get?
  val := fun _ => (He5.valA fn, true)
  says := fun _ h => ∃ K : PySem.W.Frag, K.In h ∧ Says fa fn own K
  of := fun _ _ e => ⟨_, He.frG_in, congrArg Prod.fst e, congrArg Prod.snd e⟩
  keeps := fun _ _ _ ⟨K, hK, c⟩ k => ⟨K, PySem.W.Frag.In.keeps hK k, c⟩
theorem obG_eq {n : Nat} {fa : List He.Fa} {fn : List He5.DefA} {own : PySem.W.Frag → Bool} {g : Addr → Option Obj} {s : Shared} (h : ∀ a, g a = s.heap.get? a) : obG n fa fn own g = (hook n fa fn own).obs s := by
  rw [show g = s.heap.get? from funext h] <;> rfl
theorem Says.fact {fa : List He.Fa} {fn : List He5.DefA} {own : PySem.W.Frag → Bool} {K : PySem.W.Frag} (c : Says fa fn own K) {f : He.Fa} (hf : f ∈ fa) : f.ok K = true := by
  obtain ⟨i, hi⟩ := List.getElem?_of_mem hf
  exact c.1.fact i hi
/-- a class's constants -/
def cvS (K : PySem.W.Frag) (C : Addr) (f z : Str) : Bool := match PySem.W.findCls K (.ref C) (.type "type") f with
  | some (.val (.str y _)) => decide (y = z)
  | _ => false
def cvI (K : PySem.W.Frag) (C : Addr) (f : Str) (i : Int) : Bool := match PySem.W.findCls K (.ref C) (.type "type") f with
  | some (.val (.int y _)) => decide (y = i)
  | _ => false
theorem cvS_ok {K : PySem.W.Frag} {C : Addr} {f z : Str} (h : cvS K C f z = true) : ∃ u, ClX.CVal K C (.type "type") f (.str z) u := by
  unfold cvS at h
  split at h
  · rename_i y t e
    exact ⟨_, e, t, by rw [of_decide_eq_true h]⟩
  · cases h
theorem cvI_ok {K : PySem.W.Frag} {C : Addr} {f : Str} {i : Int} (h : cvI K C f i = true) : ∃ u, ClX.CVal K C (.type "type") f (.int i) u := by
  unfold cvI at h
  split at h
  · rename_i y t e
    exact ⟨_, e, t, by rw [of_decide_eq_true h]⟩
  · cases h
def crB (K : PySem.W.Frag) (C : Addr) : Bool := PySem.W.readsIn K C (.type "type") && He.eqO (PySem.W.specialIn K (.ref C) "__getattribute__") (some (some (.builtin "type.__getattribute__")))
theorem crB_ok {K : PySem.W.Frag} {C : Addr} (h : crB K C = true) : ClX.CRead K C (.type "type") := ⟨(He.ba h).1, He.eqO_ok (He.ba h).2⟩
def sysB (K : PySem.W.Frag) : Bool := match K.lookup sysModules with
  | some o => decide (o.cls = .type "dict")
  | none => false
theorem sysB_ok {K : PySem.W.Frag} (h : sysB K = true) : Lg.SysIn K := by
  unfold sysB at h
  split at h
  · rename_i o e
    exact ⟨o, e, of_decide_eq_true h⟩
  · cases h
end Hb

set_option Elab.async false
set_option linter.all false
set_option maxRecDepth 100000
set_option maxHeartbeats 0
namespace Hd2
open PySem PySem.Spec PyProof.Rows L2
/-! a Hook: facts, defs wherever they stand, written dicts, one Bool more; the table of modules is seen -/
abbrev Tb : Type := List (Option (List (Option (PySem.Str × Int))))
abbrev Al : Type := He.AlD × (Tb × Bool)
def tbs (ts : List He.Tab) (K : PySem.W.Frag) : Tb := ts.map fun t => He.dicW K (t.1 K)
def tbv (ts : List He.Tab) (w : World) : Tb := ts.map fun t => some (He.keysIn w.params t.2)
def obG (n : Nat) (fa : List He.Fa) (fn : List He5.DefA) (ts : List He.Tab) (own : PySem.W.Frag → Bool) (g : Addr → Option Obj) : Al :=
  (He5.obsA fa fn (He.frG g (Hb.asB g n)), (tbs ts (He.frG g (Hb.asB g n)), own (He.frG g (Hb.asB g n))))
def Says (fa : List He.Fa) (fn : List He5.DefA) (ts : List He.Tab) (own : PySem.W.Frag → Bool) (w : World) (K : PySem.W.Frag) : Prop := He5.SaysA fa fn K ∧ (tbs ts K = tbv ts w ∧ own K = true)
theorem says_of {n : Nat} {fa : List He.Fa} {fn : List He5.DefA} {ts : List He.Tab} {own : PySem.W.Frag → Bool} {w : World} {g : Addr → Option Obj} (e : obG n fa fn ts own g = (He5.valA fn, (tbv ts w, true))) : Says fa fn ts own w (He.frG g (Hb.asB g n)) :=
  ⟨congrArg Prod.fst e, congrArg Prod.fst (congrArg Prod.snd e), congrArg Prod.snd (congrArg Prod.snd e)⟩
def hook (n : Nat) (fa : List He.Fa) (fn : List He5.DefA) (ts : List He.Tab) (own : PySem.W.Frag → Bool) : PySem.W.Hook where
  α := Al
  obs := fun s => obG n fa fn ts own s.heap.get?
  val := fun w => (He5.valA fn, (tbv ts w, true))
  says := fun w h => ∃ K : PySem.W.Frag, K.In h ∧ Says fa fn ts own w K
  of := fun _ _ e => ⟨_, He.frG_in, says_of e⟩
  keeps := fun _ _ _ ⟨K, hK, c⟩ k => ⟨K, PySem.W.Frag.In.keeps hK k, c⟩
theorem obG_eq {n : Nat} {fa : List He.Fa} {fn : List He5.DefA} {ts : List He.Tab} {own : PySem.W.Frag → Bool} {g : Addr → Option Obj} {s : Shared} (h : ∀ a, g a = s.heap.get? a) : obG n fa fn ts own g = (hook n fa fn ts own).obs s := by
  rw [show g = s.heap.get? from funext h] <;> rfl
section
variable {fa : List He.Fa} {fn : List He5.DefA} {ts : List He.Tab} {own : PySem.W.Frag → Bool} {w : World} {K : PySem.W.Frag}
theorem Says.fact (c : Says fa fn ts own w K) {f : He.Fa} (hf : f ∈ fa) : f.ok K = true := by
  obtain ⟨i, hi⟩ := List.getElem?_of_mem hf
  exact c.1.fact i hi
theorem Says.tab (c : Says fa fn ts own w K) (i : Nat) {t : He.Tab} (h : ts[i]? = some t := by rfl) : ∃ es n, KDict K w (t.1 K) es n := by
  have e := congrArg (fun l : Tb => l[i]?) c.2.1
  simp only [tbs, tbv, List.getElem?_map, h] at e
  exact He.dicW_ok (Option.some.inj e)
end
end Hd2

set_option Elab.async false
set_option linter.all false
set_option maxRecDepth 100000
set_option maxHeartbeats 2000000
namespace Lm
open PySem PySem.Spec PyProof.Rows L2
/-! a lambda's error is caught where the slots' number is known -/
theorem takes_len {X : Cx} {W : WX} (tk : L2.Takes X W) : L2.Takes X (fun c d σ H => σ.length = X.N.length → W c d σ H) := fun u s' x => by
  obtain ⟨a, B, sI, pins, σ, H, cls, d, e, I, nb, up, sky, na, os, ag, q⟩ := x
  exact tk u s' ⟨a, B, sI, pins, σ, H, cls, d, e, I, nb, up, sky, na, os, ag, q I.len⟩
/-- an error made with the context None is an error made -/
theorem pmk_c {X : Cx} {e : Expr} {t : L2.St → Hp → XK → Prop} (h : L2N.PMk X e t) : L2.PMk X e t := fun pins s σ H Q I q => by
  refine wpAny_mono (h pins s σ H Q I q) (fun u s' z => ?_) (fun _ _ z => z)
  obtain ⟨a, oe, vs, sI, H', cls, d, e1, J, k, n1, n2, zn, r⟩ := z
  exact ⟨a, oe, vs, sI, H', cls, d, e1, J, k, n1, n2, zn.zc, r⟩
/-- a def's body, its code object told -/
theorem okC {CX : CXT} {P : Program} {w : World} {K : PySem.W.Frag} {mg : Str → Option Value} {base : Heap} {k : Nat} {p : He.Defn} {x qual : Str} {params : Arguments} {bd : List Stmt} {scope : Scope} {dvs : List V} {kws : List (Str × V)} {fd : FuncData} {N ps : List Str} {sp : Sp}
    (F : FunD K x qual params bd scope dvs kws (He.fAd K p) fd) (S : FnScope N ps scope) (few : ∀ vs H Q E, sp vs H Q E → vs.length = ps.length)
    (does : ∀ (cd : Value) (A : Around) (fs : List Env) (s : Shared) (H : Hp) (vs : List V) (Q : VK) (E : XK), cd = .ref (He.cT K p).1 → Room k (A.deeper (envOfC qual scope s.heap.objs.size (He.fAd K p) cd)) → sp vs H Q E →
      ∃ t, PSs (cxOf CX P w K mg base N qual scope (He.fAd K p) cd A fs s H E) bd t ∧ t { nx := fun _ G => Q .non G, rt := Q } (start N vs) H) : FnOk P w K mg base CX (k + 1) (He.fAd K p) fd ps sp := by
  obtain ⟨oc, od, dV, kV, doc, pm, an, cd, ct, sl, rfl, here, code, _, _⟩ := F.ex
  obtain ⟨c, rfl⟩ := He.codeIn_ref code
  exact fn_of here code S few fun A fs s H vs Q E room pr => does _ A fs s H vs Q E (congrArg Value.ref (He.codeOf_eq here rfl).symm) room pr
/-! tables of code objects are kept -/
theorem tabs_keep {T : List (Addr × Str)} {H G : Hp} {a : Addr} {o : HO} (ha : H a = some o) (no : ∀ ps, o ≠ .tbl ps) (nc : ∀ q, o ≠ LamX.CodeO a q) (k : Lw.Keep a H G) (t : LamX.Tabs T H) : LamX.Tabs T G := fun p hp => by
  obtain ⟨ps, h1, h2, h3⟩ := t p hp
  have n1 : p.1 ≠ a := fun z => by
    rw [z, ha] at h1
    exact no ps (Option.some.inj h1)
  refine ⟨ps, k _ _ n1 h1, h2, fun pos cv hc => ?_⟩
  obtain ⟨c, e, hco⟩ := h3 pos cv hc
  refine ⟨c, e, k _ _ (fun z => ?_) hco⟩
  subst z
  rw [ha] at hco
  exact nc _ (Option.some.inj hco)
theorem tabs_same {T : List (Addr × Str)} {H G : Hp} (s : Same H G) (t : LamX.Tabs T H) : LamX.Tabs T G := LamX.Tabs.ext t fun b o => s b o
end Lm
namespace Hd4
open PySem PySem.Spec PyProof.Rows L2
/-! a Hook as Hd2's; some defs' code objects and their empty tables are told too -/
abbrev Al : Type := He.AlD × (Hd2.Tb × Bool)
def obG (n : Nat) (fa : List He.Fa) (fn : List He5.DefA) (ts : List He.Tab) (tf : List He.Defn) (own : PySem.W.Frag → Bool) (g : Addr → Option Obj) : Al :=
  (He5.obsA fa fn (He.frT g (Hb.asB g n)), (Hd2.tbs ts (He.frT g (Hb.asB g n)), own (He.frT g (Hb.asB g n)) && He.tabsB g tf (He.frT g (Hb.asB g n))))
structure Says (fa : List He.Fa) (fn : List He5.DefA) (ts : List He.Tab) (tf : List He.Defn) (own : PySem.W.Frag → Bool) (w : World) (h : Heap) (K : PySem.W.Frag) : Prop where
  t : Hd2.Says fa fn ts own w K
  hd : ∀ p ∈ tf, PySem.W.codeHdIn K (He.cT K p).1 (He.cT K p).2 = true
  out : ∀ p ∈ tf, K.lookup (He.cT K p).2 = none
  empty : ∀ p ∈ tf, h.get? (He.cT K p).2 = some { cls := .none, data := .fields #[] }
theorem says_of {n : Nat} {fa : List He.Fa} {fn : List He5.DefA} {ts : List He.Tab} {tf : List He.Defn} {own : PySem.W.Frag → Bool} {w : World} {h : Heap} (e : obG n fa fn ts tf own h.get? = (He5.valA fn, (Hd2.tbv ts w, true))) : Says fa fn ts tf own w h (He.frT h.get? (Hb.asB h.get? n)) := by
  have e2 : (own (He.frT h.get? (Hb.asB h.get? n)) && He.tabsB h.get? tf (He.frT h.get? (Hb.asB h.get? n))) = true := congrArg Prod.snd (congrArg Prod.snd e)
  obtain ⟨o1, o2⟩ := He.ba e2
  have each : ∀ p ∈ tf, PySem.W.codeHdIn (He.frT h.get? (Hb.asB h.get? n)) (He.cT (He.frT h.get? (Hb.asB h.get? n)) p).1 (He.cT (He.frT h.get? (Hb.asB h.get? n)) p).2 = true ∧ ∃ o, h.get? (He.cT (He.frT h.get? (Hb.asB h.get? n)) p).2 = some o ∧ He.emptyTab o = true := fun p hp => by
    obtain ⟨z1, z2⟩ := He.ba (List.all_eq_true.mp o2 p hp)
    refine ⟨z1, ?_⟩
    split at z2
    · rename_i o ho
      exact ⟨o, ho, z2⟩
    · cases z2
  refine ⟨⟨congrArg Prod.fst e, congrArg Prod.fst (congrArg Prod.snd e), o1⟩, fun p hp => (each p hp).1, fun p hp => ?_, fun p hp => ?_⟩
  · obtain ⟨_, o, ho, z⟩ := each p hp
    exact He.frT_none ho z
  · obtain ⟨_, o, ho, z⟩ := each p hp
    rw [ho, He.emptyTab_eq z]
def hook (n : Nat) (fa : List He.Fa) (fn : List He5.DefA) (ts : List He.Tab) (tf : List He.Defn) (own : PySem.W.Frag → Bool) : PySem.W.Hook where
  α := Al
  obs := fun s => obG n fa fn ts tf own s.heap.get?
  val := fun w => (He5.valA fn, (Hd2.tbv ts w, true))
  says := fun w h => ∃ K : PySem.W.Frag, K.In h ∧ Says fa fn ts tf own w h K
  of := fun _ _ e => ⟨_, He.frT_in, says_of e⟩
  keeps := fun _ _ _ ⟨K, hK, c⟩ k => ⟨K, PySem.W.Frag.In.keeps hK k, c.t, c.hd, c.out, fun p hp => k _ _ (c.empty p hp)⟩
theorem obG_eq {n : Nat} {fa : List He.Fa} {fn : List He5.DefA} {ts : List He.Tab} {tf : List He.Defn} {own : PySem.W.Frag → Bool} {g : Addr → Option Obj} {s : Shared} (h : ∀ a, g a = s.heap.get? a) : obG n fa fn ts tf own g = (hook n fa fn ts tf own).obs s := by
  rw [show g = s.heap.get? from funext h] <;> rfl
end Hd4

set_option Elab.async false
set_option linter.all false
set_option maxRecDepth 100000
set_option maxHeartbeats 40000000
namespace Lw
open PySem PySem.Spec PyProof.Rows L2
abbrev sBhI : Stmt := inClass (top 9) 0
abbrev sHabI : Stmt := inClass (top 15) 0
abbrev sBtI : Stmt := inClass (top 10) 0
section
variable {P : Program} {w : World} {K : PySem.W.Frag} {mg : Str → Option Value} {base : Heap}
/-! BadHabit(habit) -/
theorem plain_str {H : Hp} (z : Str) : Plain3 K H (.str z) := ⟨⟨_, ty_str z, kit_ty (by decide +kernel)⟩, ⟨_, ty_str z, kit_ty (by decide +kernel)⟩, ⟨_, ty_str z, kit_ty (by decide +kernel)⟩⟩
abbrev habF (z : Str) : List (Str × V) := [("habit", .str z)]
def spBhI (C : Addr) : Sp := fun vs H Q _ => ∃ (a : Addr) (z : Str), vs = [.ref a, .str z] ∧ H a = some (exo a C none) ∧ ∀ (d : Addr) (G : Hp), H d = none → d ≠ a → Keep a H G → G a = some (exo a C (some d)) → G d = some (exd d (habF z)) → Q .non G
structure TxtBh (K : PySem.W.Frag) (mg : Str → Option Value) (C : Addr) (newId : String) : Prop where
  oex : Ge.OexT K C Ge.vlTail newId
  nH : PySem.W.findIn K (.ref C) "habit" = some none
  gB : mg "BadHabit" = some (.ref C)
theorem scBhI : FnScope ["self", "habit"] ["self", "habit"] (defScope sBhI) := ⟨rfl, rfl, rfl, by decide +kernel, rfl, by decide +kernel, by decide +kernel⟩
theorem ok_bhI {C f : Addr} {fd : FuncData} {newId : String} (F : MethD K "__init__" "BadHabit.__init__" sBhI f fd) (T : TxtBh K mg C newId) (cC : Cal P w K mg base CX0 "copied" 1 ["value"] (spCopF K)) : FnOk P w K mg base CX0 2 f fd ["self", "habit"] (spBhI C) := by
  refine F.ok scBhI (fun vs H Q E h => ?_) (fun cdv A outer s H vs Q E hr h => ?_)
  · obtain ⟨a, z, rfl, _⟩ := h
    rfl
  · obtain ⟨a, z, rfl, ha, k⟩ := h
    refine ⟨_, PSs.nox (pss_one (Ge.ps_ostT (pv 0) (pe_cal cC hr (pa_cons (pv 1) pa_nil)))), ?_⟩
    refine ⟨_, rfl, _, rfl, plain_str z, ?_⟩
    refine ⟨_, rfl, a, C, _, _, rfl, T.oex, T.nH, ha, fun d nd da => ?_⟩
    refine k d _ nd da (fun b o n e => ?_) upd_same ?_
    · rw [upd_ne n, upd_ne (ne_of_none e nd)]
      exact e
    · rw [upd_ne da]
      exact upd_same
structure BhT (P : Program) (w : World) (K : PySem.W.Frag) (mg : Str → Option Value) (base : Heap) (C : Addr) : Prop where
  ex : ∃ newId f fd, TxtBh K mg C newId ∧ ExcBaseFacts "ValueError" newId "ValueError.__init__" Ge.vlTail ∧ PySem.W.findIn K (.ref C) "__init__" = some (some (.ref f)) ∧ PySem.W.typeIn K (.ref f) = some (.type "function") ∧ FnOk P w K mg base CX0 2 f fd ["self", "habit"] (spBhI C) ∧ Binds K fd ["self", "habit"] []
end
section
variable {X : Cx} {C : Addr} {e1 : Expr} {t : TA} {p pos pos2 : Pos} {W : WX}
theorem ps_badhab (B : BhT X.prog X.w X.K X.mg X.base C) (hc : X.calm = true) (hr : Room 3 X.A) (tk : L2N.Takes X W) (ha : PA X [e1] t) (hg : Gl X "BadHabit" := by rfl)
    (he : starEach [e1] X.env = (false, eval e1 X.env) :: starEach [] X.env := by rfl) (hpl : (backTo pos (starEach [] X.env)).any (·.1) = false := by rfl) :
    PS X (.Raise (some (.Call (.Name "BadHabit" p) [e1] [] pos)) none pos2) (fun _ σ H => tMkO C (spBhI C) [] t σ H fun cls d H' => W cls d σ H') := by
  obtain ⟨newId, f, fd, T, B2, h1, h2, F, b⟩ := B.ex
  exact L2N.ps_raise hc tk (Ge.pmk_T B2 T.oex h1 h2 F hr b .nil pass0 T.gB ha hg (by decide) he hpl)
end
theorem badhab_tail {C : Addr} {z : Str} {H : Hp} {E : XK}
    (k : ∀ d G, H d = none → Same H G → G d = some (.xd (habF z)) → E (.ref C) (some d) G) :
    ([.str z] : List V).length ≤ 1000 ∧ ∀ a, H a = none → spBhI C (.ref a :: ([.str z] ++ [])) (upd H a (exo a C none)) (fun v H2 => v = .non ∧ ∃ (d : Addr) (fs : List (Str × V)), H2 a = some (exo a C (some d)) ∧ H2 d = some (exd d fs) ∧ H d = none ∧ E (.ref C) (some d) (upd (del H2 a) d (.xd fs))) (fun _ _ _ => False) := by
  refine ⟨by show 1 ≤ 1000; decide, fun a na => ?_⟩
  have s0 := Lw.Same.new (o := exo a C none) (Same.refl H) na
  refine ⟨a, z, rfl, upd_same, fun d G nd da kG ga gd => ⟨rfl, d, habF z, ga, gd, ?_, ?_⟩⟩
  · rw [upd_ne da] at nd
    exact nd
  · rw [upd_ne da] at nd
    refine k d _ nd (fun b o2 e => ?_) upd_same
    have ba := ne_of_none e na
    rw [upd_ne (ne_of_none e nd), del_ne ba]
    exact kG b o2 ba (s0 _ _ e)
section
variable {P : Program} {w : World} {K : PySem.W.Frag} {mg : Str → Option Value} {base : Heap}
/-! habits made of any values -/
def HabAtV (CH : Addr) (H : Hp) (h : Addr) (y : Hv) : Prop := ∃ dx, H h = some (.ins CH dx [("present", y.pr), ("lacking", y.la), ("gone", y.go), ("shared", y.sh)])
structure TxtHb (K : PySem.W.Frag) (CH : Addr) : Prop where
  cl : Cls K CH
  n1 : NoAttr K CH "present"
  n2 : NoAttr K CH "lacking"
  n3 : NoAttr K CH "gone"
  n4 : NoAttr K CH "shared"
def spHabV (CH CB : Addr) : Sp := fun vs H Q E => ∃ (p dx a : Addr) (y : Hv), vs = [.ref p, y.pr, y.la, y.go, y.sh] ∧ H p = some (.ins CH dx []) ∧ PlH a H y ∧ (∀ z r, wrongs y = z :: r → ∀ d G, H d = none → Same H G → G d = some (.xd (habF z)) → E (.ref CB) (some d) G) ∧
  (wrongs y = [] → ∀ G, Keep p H G → HabAtV CH G p y → Q .non G)
abbrev nHabI : List Str := ["self", "present", "lacking", "gone", "shared", "told", "habit"]
abbrev HabD (K : PySem.W.Frag) (f : Addr) (fd : FuncData) : Prop := FunD K "__init__" "Habits.__init__" (defArgs sHabI) (defBody sHabI) (defScope sHabI) [] [("present", .str "stop"), ("lacking", .str "stop"), ("gone", .str "stop"), ("shared", .str "one")] f fd
theorem scHabI : FnScope nHabI ["self", "present", "lacking", "gone", "shared"] (defScope sHabI) := ⟨rfl, rfl, rfl, by decide +kernel, rfl, by decide +kernel, by decide +kernel⟩
def toldV (y : Hv) : List (Key × V) := [(Sum.inr "present", y.pr), (Sum.inr "lacking", y.la), (Sum.inr "gone", y.go), (Sum.inr "shared", y.sh)]
theorem told_of (y : Hv) {z : Str} (h : z ∈ habNames) : valV (mergeK [] (toldV y)) (Sum.inr z) = some (y.of z) := by
  rcases List.mem_cons.mp h with rfl | h
  · rfl
  rcases List.mem_cons.mp h with rfl | h
  · rfl
  rcases List.mem_cons.mp h with rfl | h
  · rfl
  rcases List.mem_cons.mp h with rfl | h
  · rfl
  cases h
theorem vals_mem {z : Str} (h : z ∈ habNames) : (z, valsOf z) ∈ habVals := by
  rcases List.mem_cons.mp h with rfl | h
  · decide
  rcases List.mem_cons.mp h with rfl | h
  · decide
  rcases List.mem_cons.mp h with rfl | h
  · decide
  rcases List.mem_cons.mp h with rfl | h
  · decide
  cases h
theorem ok_habV {CH CB dV f : Addr} {fd : FuncData} (F : HabD K f fd) (T : TxtHb K CH) (B : BhT P w K mg base CB) (V4 : HabV K w mg dV) : FnOk P w K mg base (L2N.CX P w) 4 f fd ["self", "present", "lacking", "gone", "shared"] (spHabV CH CB) := by
  refine F.ok scHabI (fun vs H Q E h => ?_) (fun cdv A outer s H vs Q E hr h => ?_)
  · obtain ⟨p, dx, a, y, rfl, _⟩ := h
    rfl
  · obtain ⟨p, dx, a, y, rfl, hp, py, kE, k⟩ := h
    have nd := scHabI.nd
    have hu := hu_of hr
    refine ⟨_, (pss_cons (ps_set (i := 5) nd rfl (Or.inl rfl) (pe_disp (pps_cons pe_str (pv 1) (pps_cons pe_str (pv 2) (pps_cons pe_str (pv 3) (pps_cons pe_str (pv 4) pps_nil)))) (by rfl) (by rfl) (fun z => by cases z) (by decide)))
      (pss_cons (ps_for (L2.passes_of rfl) rfl (Kd.pi_kd V4.ky (pe_glob (v := .ref dV) rfl V4.gV rfl)) (pg_name (i := 6) nd rfl (Or.inl rfl))
        (pss_one (ps_if (pt_cmpR (r := Iw.rInW K true) (by exact Iw.op_notInW hr.units) (pe_dget hu (pv 5) (pv 6) (fun _ _ => rfl)) (pe_ix (by exact ix_kdict) (pe_glob (v := .ref dV) rfl V4.gV rfl) (pv 6) (fun _ _ => rfl)) (by rfl)) (pss_one (ps_badhab B rfl hr (L2N.takes_of rfl rfl rfl rfl) (pa_cons (pv 6) pa_nil))) pss_nil)))
      (pss_cons (ps_fld (pv 0) (pv 1) rfl) (pss_cons (ps_fld (pv 0) (pv 2) rfl) (pss_cons (ps_fld (pv 0) (pv 3) rfl) (pss_one (ps_fld (pv 0) (pv 4) rfl)))))))  , ?_⟩
    refine sq_set (fun x G => ∃ t, x = .ref t ∧ H t = none ∧ Same H G ∧ G t = some (.dK (mergeK [] (toldV y)))) (fun Q q => ?_) ?_
    · intro t nt
      refine ⟨_, rfl, _, rfl, _, rfl, _, rfl, upd_same, toldV y, rfl, (by show 4 ≤ 15; decide), q _ _ ⟨t, rfl, nt, same_at nt (Lw.Same.new (Same.refl H) nt), upd_same⟩⟩
    rintro _ G ⟨t, rfl, nt, sG, gt⟩
    refine ⟨rfl, ?_⟩
    refine for_it (Kd.walk_kd (zs := habNames)) (fun i σ G2 => G = G2 ∧ (∀ j x, j < i → habNames[j]? = some x → gd y x = true) ∧ ∃ v6 : Option V, σ = [some (.ref p), some y.pr, some y.la, some y.go, some y.sh, some (.ref t), v6]) ⟨rfl, fun j x h => absurd h (Nat.not_lt_zero _), _, rfl⟩ (fun _ _ _ _ _ => trivial) ?_ ?_
    · rintro i x σ G2 G3 hi ⟨rfl, bef, v6, rfl⟩ ⟨rfl, z, hz, rfl⟩
      have hm : z ∈ habNames := List.mem_of_getElem? hz
      obtain ⟨b, h1, h2⟩ := V4.at_ _ (vals_mem hm)
      refine ⟨_, rfl, _, rfl, t, y.of z, rfl, .inl ⟨_, Sum.inr z, .inl gt, rfl, (told_of y hm).symm⟩, _, rfl, dV, z, .ref b, rfl, rfl, h1, ?_⟩
      refine notIn_of ((py.same sG).of z) (.inr (h2 _)) ⟨_, rfl, ?_⟩
      cases hg : gdL (valsOf z) (y.of z) with
      | true =>
        refine itFb rfl ⟨rfl, fun j x hj hx => ?_, _, rfl⟩
        rcases Nat.lt_or_eq_of_le (Nat.le_of_lt_succ hj) with hj | rfl
        · exact bef j x hj hx
        · rw [hz] at hx
          cases hx
          exact hg
      | false =>
        refine itTb rfl ⟨_, rfl, badhab_tail fun d G4 nd s g => ?_⟩
        obtain ⟨r, e⟩ := wrongs_at hz bef hg
        exact kE z r e d G4 (none_of_same sG nd) (sG.trans s) g
    · rintro σ G2 ⟨rfl, bef, v6, rfl⟩
      have e0 : wrongs y = [] := wrongs_nil.mpr fun h hh => by
        obtain ⟨j, hj⟩ := List.getElem?_of_mem hh
        exact bef j h (List.getElem?_eq_some_iff.mp hj).1 hj
      have gp := sG _ _ hp
      refine ⟨_, rfl, _, rfl, p, CH, dx, _, rfl, gp, T.cl, T.n1, (by show 0 < 1000; decide), ?_⟩
      refine ⟨_, rfl, _, rfl, p, CH, dx, _, rfl, upd_same, T.cl, T.n2, (by show 1 < 1000; decide), ?_⟩
      refine ⟨_, rfl, _, rfl, p, CH, dx, _, rfl, upd_same, T.cl, T.n3, (by show 2 < 1000; decide), ?_⟩
      refine ⟨_, rfl, _, rfl, p, CH, dx, _, rfl, upd_same, T.cl, T.n4, (by show 3 < 1000; decide), ?_⟩
      refine k e0 _ (fun a o n e => ?_) ⟨dx, upd_same⟩
      rw [upd_ne n, upd_ne n, upd_ne n, upd_ne n]
      exact sG _ _ e
/-! BadTarget(at) -/
abbrev atF (i : Int) : List (Str × V) := [("at", .int i)]
def spBtI (C : Addr) : Sp := fun vs H Q _ => ∃ (a : Addr) (i : Int), vs = [.ref a, .int i] ∧ H a = some (exo a C none) ∧ ∀ (d : Addr) (G : Hp), H d = none → d ≠ a → Keep a H G → G a = some (exo a C (some d)) → G d = some (exd d (atF i)) → Q .non G
structure TxtBt (K : PySem.W.Frag) (mg : Str → Option Value) (C : Addr) (newId : String) : Prop where
  oex : Ge.OexT K C Ge.vlTail newId
  nH : PySem.W.findIn K (.ref C) "at" = some none
  gB : mg "BadTarget" = some (.ref C)
theorem scBtI : FnScope ["self", "at"] ["self", "at"] (defScope sBtI) := ⟨rfl, rfl, rfl, by decide +kernel, rfl, by decide +kernel, by decide +kernel⟩
theorem ok_btI {C f : Addr} {fd : FuncData} {newId : String} (F : MethD K "__init__" "BadTarget.__init__" sBtI f fd) (T : TxtBt K mg C newId) (cC : Cal P w K mg base CX0 "copied" 1 ["value"] (spCopF K)) : FnOk P w K mg base CX0 2 f fd ["self", "at"] (spBtI C) := by
  refine F.ok scBtI (fun vs H Q E h => ?_) (fun cdv A outer s H vs Q E hr h => ?_)
  · obtain ⟨a, z, rfl, _⟩ := h
    rfl
  · obtain ⟨a, z, rfl, ha, k⟩ := h
    refine ⟨_, PSs.nox (pss_one (Ge.ps_ostT (pv 0) (pe_cal cC hr (pa_cons (pv 1) pa_nil)))), ?_⟩
    refine ⟨_, rfl, _, rfl, plain_int (.inl ⟨z, rfl⟩), ?_⟩
    refine ⟨_, rfl, a, C, _, _, rfl, T.oex, T.nH, ha, fun d nd da => ?_⟩
    refine k d _ nd da (fun b o n e => ?_) upd_same ?_
    · rw [upd_ne n, upd_ne (ne_of_none e nd)]
      exact e
    · rw [upd_ne da]
      exact upd_same
structure BtT (P : Program) (w : World) (K : PySem.W.Frag) (mg : Str → Option Value) (base : Heap) (C : Addr) : Prop where
  ex : ∃ newId f fd, TxtBt K mg C newId ∧ ExcBaseFacts "ValueError" newId "ValueError.__init__" Ge.vlTail ∧ PySem.W.findIn K (.ref C) "__init__" = some (some (.ref f)) ∧ PySem.W.typeIn K (.ref f) = some (.type "function") ∧ FnOk P w K mg base CX0 2 f fd ["self", "at"] (spBtI C) ∧ Binds K fd ["self", "at"] []
end
section
variable {X : Cx} {C : Addr} {e1 : Expr} {t : TA} {p pos pos2 : Pos} {W : WX}
theorem ps_badtgt (B : BtT X.prog X.w X.K X.mg X.base C) (hc : X.calm = true) (hr : Room 3 X.A) (tk : L2N.Takes X W) (ha : PA X [e1] t) (hg : Gl X "BadTarget" := by rfl)
    (he : starEach [e1] X.env = (false, eval e1 X.env) :: starEach [] X.env := by rfl) (hpl : (backTo pos (starEach [] X.env)).any (·.1) = false := by rfl) :
    PS X (.Raise (some (.Call (.Name "BadTarget" p) [e1] [] pos)) none pos2) (fun _ σ H => tMkO C (spBtI C) [] t σ H fun cls d H' => W cls d σ H') := by
  obtain ⟨newId, f, fd, T, B2, h1, h2, F, b⟩ := B.ex
  exact L2N.ps_raise hc tk (Ge.pmk_T B2 T.oex h1 h2 F hr b .nil pass0 T.gB ha hg (by decide) he hpl)
/-- what a try's body lets out, whatever its slots are -/
theorem passN {W : WX} (tk : L2N.Takes X W) : Passes (L2N.CX X.prog X.w) X (WL X W) := passL tk
end
theorem badtgt_tail {C : Addr} {i : Int} {H : Hp} {E : XK}
    (k : ∀ d G, H d = none → Same H G → G d = some (.xd (atF i)) → E (.ref C) (some d) G) :
    ([.int i] : List V).length ≤ 1000 ∧ ∀ a, H a = none → spBtI C (.ref a :: ([.int i] ++ [])) (upd H a (exo a C none)) (fun v H2 => v = .non ∧ ∃ (d : Addr) (fs : List (Str × V)), H2 a = some (exo a C (some d)) ∧ H2 d = some (exd d fs) ∧ H d = none ∧ E (.ref C) (some d) (upd (del H2 a) d (.xd fs))) (fun _ _ _ => False) := by
  refine ⟨by show 1 ≤ 1000; decide, fun a na => ?_⟩
  have s0 := Lw.Same.new (o := exo a C none) (Same.refl H) na
  refine ⟨a, i, rfl, upd_same, fun d G nd da kG ga gd => ⟨rfl, d, atF i, ga, gd, ?_, ?_⟩⟩
  · rw [upd_ne da] at nd
    exact nd
  · rw [upd_ne da] at nd
    refine k d _ nd (fun b o2 e => ?_) upd_same
    have ba := ne_of_none e na
    rw [upd_ne (ne_of_none e nd), del_ne ba]
    exact kG b o2 ba (s0 _ _ e)
section
variable {P : Program} {w : World} {K : PySem.W.Frag} {mg : Str → Option Value} {base : Heap}
end
end Lw

set_option Elab.async false
set_option linter.all false
set_option maxRecDepth 100000
set_option maxHeartbeats 4000000
namespace Lw
open PySem PySem.Spec PyProof.Rows L2
/-! == and != of dicts of integers and None, with both answers; tuples of a text, an integer and such a dict -/
def eK (ks ls : List (Key × V)) (k : Key) : Bool := match valV ks k, valV ls k with
  | some x, some y => eqV x y
  | _, _ => false
def sameK (ks ls : List (Key × V)) : Bool := ks.length == ls.length && ks.all fun p => (valV ls p.1).isSome && eK ks ls p.1
theorem IntN.flatV {v : V} (h : IntN v) : L2.flatV v = true := by
  rcases h with ⟨i, rfl⟩ | rfl <;> rfl
theorem eqV_N {x y : V} (hx : IntN x) (hy : IntN y) : eqV x y = decide (x = y) := by
  rcases hx with ⟨i, rfl⟩ | rfl <;> rcases hy with ⟨j, rfl⟩ | rfl
  · by_cases e : i = j
    · subst e; simp [eqV]
    · rw [decide_eq_false fun h => e (V.int.inj h)]; simp [eqV, e]
  · rfl
  · rfl
  · rfl
def rEqDB (g : Bool → Bool) : R2 := fun x y H Q => ∃ a b ks ls, x = .ref a ∧ y = .ref b ∧ H a = some (.dK ks) ∧ H b = some (.dK ls) ∧ (ks.map (·.1)).Nodup ∧ (∀ p ∈ ks, IntN p.2) ∧ (∀ p ∈ ls, IntN p.2) ∧ Q (.bl (g (sameK ks ls))) H
theorem val_in {ls : List (Key × V)} {k : Key} {v : V} (h : valV ls k = some v) : ∃ p ∈ ls, p.1 = k ∧ p.2 = v := by
  unfold valV at h
  obtain ⟨p, hp, e⟩ := Option.map_eq_some_iff.mp h
  exact ⟨p, List.mem_of_find?_eq_some hp, by have z := List.find?_some hp; exact of_decide_eq_true (p := p.1 = k) z, e⟩
theorem dict_tree {P : Program} {w : World} {s : Shared} {ks ls : List (Key × V)} {va vb : List (Key × Value)} (ra : KV ks va) (rb : KV ls vb) (nd : (ks.map (·.1)).Nodup) (hk : ∀ p ∈ ks, IntN p.2) (hl : ∀ p ∈ ls, IntN p.2) :
    ∀ k v y, (k, v) ∈ va → valueAt vb k = some y → PySem.W.EqTree P w s 1 v y (eK ks ls k) := fun k v y hm hv => by
  have r1 := ra.val k
  have r2 := rb.val k
  rw [hv] at r2
  have nv : (va.map (·.1)).Nodup := by rw [← ra.keys]; exact nd
  have e1 : valueAt va k = some v := valueAt_of_mem nv hm
  rw [e1] at r1
  cases h1 : valV ks k with
  | none => rw [h1] at r1; exact absurd r1 id
  | some x =>
    cases h2 : valV ls k with
    | none => rw [h2] at r2; exact absurd r2 id
    | some z =>
      rw [h1] at r1
      rw [h2] at r2
      have e : eK ks ls k = eqV x z := by unfold eK; rw [h1, h2]
      rw [e]
      obtain ⟨p, hp, _, ep⟩ := val_in h1
      obtain ⟨q, hq, _, eq⟩ := val_in h2
      exact .leaf fun A _ => eqAt_V r1 r2 (ep ▸ (hk p hp).flatV) (eq ▸ (hl q hq).flatV)
theorem dict_all {ks ls : List (Key × V)} {va vb : List (Key × Value)} (ra : KV ks va) (rb : KV ls vb) : (va.length == vb.length && va.all fun p => (valueAt vb p.1).isSome && eK ks ls p.1) = sameK ks ls := by
  unfold sameK
  have e1 : va.length = ks.length := ra.length.symm
  have e2 : vb.length = ls.length := rb.length.symm
  rw [e1, e2]
  congr 1
  have e3 : va.all (fun p => (valueAt vb p.1).isSome && eK ks ls p.1) = (va.map (·.1)).all fun k => (valV ls k).isSome && eK ks ls k := by
    rw [List.all_map]
    congr 1
    funext p
    show _ = ((valV ls p.1).isSome && eK ks ls p.1)
    rw [(rb.val p.1).isSome_eq]
  rw [e3, ← ra.keys, List.all_map]
  rfl
section
variable {X : Cx}
theorem op_eq_dB (hu : X.A.units + 64 < cLine) : OpR X (compareOp .Eq) (rEqDB id) := by
  intro pins s σ H x y v u Q I rx ry h
  obtain ⟨a, b, ks, ls, rfl, rfl, ea, eb, nd, hk, hl, q⟩ := h
  obtain rfl : v = Value.ref a := rx
  obtain rfl : u = Value.ref b := ry
  obtain ⟨_, ya, va, ra, da⟩ := (show ObjOk X.prog X.w H s.heap a (.dK ks) from I.hok a _ ea)
  obtain ⟨_, yb, vb, rb, db⟩ := (show ObjOk X.prog X.w H s.heap b (.dK ls) from I.hok b _ eb)
  exact PySem.W.eq_dictsT (knd := mixKind X.prog X.w) (e := eK ks ls) ya yb da db (dict_tree ra rb nd hk hl) (n := 1) (by omega) (by rw [dict_all ra rb]; exact ⟨.bl _, H, I, rfl, q⟩)
theorem nodup_len {α : Type} [DecidableEq α] : ∀ {l ts : List α}, l.Nodup → (∀ x ∈ l, x ∈ ts) → l.length ≤ ts.length
  | [], _, _, _ => Nat.zero_le _
  | x :: l, ts, hn, hs => by
    have hx : x ∈ ts := hs x List.mem_cons_self
    have hn2 := List.nodup_cons.mp hn
    have ih := nodup_len (l := l) (ts := ts.erase x) hn2.2 fun y hy => by
      have ne : y ≠ x := fun e => hn2.1 (e ▸ hy)
      exact (List.mem_erase_of_ne ne).mpr (hs y (List.mem_cons_of_mem _ hy))
    rw [List.length_erase_of_mem hx] at ih
    have pos : 0 < ts.length := List.length_pos_of_mem hx
    simp only [List.length_cons]
    omega
theorem nodup_all {α : Type} [DecidableEq α] {l ts : List α} (hn : l.Nodup) (hs : ∀ x ∈ l, x ∈ ts) (hl : ts.length = l.length) (y : α) (hy : y ∈ ts) : y ∈ l := by
  cases Classical.em (y ∈ l) with
  | inl h => exact h
  | inr h =>
    have := nodup_len (l := y :: l) (ts := ts) (List.nodup_cons.mpr ⟨h, hn⟩) fun x hx => by
      rcases List.mem_cons.mp hx with rfl | hx
      · exact hy
      · exact hs x hx
    simp only [List.length_cons] at this
    omega
theorem val_none {ls : List (Key × V)} {k : Key} (h : k ∉ ls.map (·.1)) : valV ls k = none := by
  cases e : valV ls k with
  | none => rfl
  | some v =>
    obtain ⟨p, hp, ek, _⟩ := val_in e
    exact absurd (List.mem_map.mpr ⟨p, hp, ek⟩) h
theorem val_some {ls : List (Key × V)} (nd : (ls.map (·.1)).Nodup) {k : Key} (h : k ∈ ls.map (·.1)) : ∃ v, valV ls k = some v ∧ (k, v) ∈ ls := by
  obtain ⟨p, hp, rfl⟩ := List.mem_map.mp h
  exact ⟨p.2, valV_mem nd p hp, hp⟩
theorem sameK_iff {ks ls : List (Key × V)} (n1 : (ks.map (·.1)).Nodup) (n2 : (ls.map (·.1)).Nodup) (hk : ∀ p ∈ ks, IntN p.2) (hl : ∀ p ∈ ls, IntN p.2) : sameK ks ls = true ↔ ∀ k, valV ks k = valV ls k := by
  unfold sameK
  rw [Bool.and_eq_true, beq_iff_eq, List.all_eq_true]
  constructor
  · rintro ⟨hlen, hall⟩ k
    have one : ∀ p ∈ ks, valV ls p.1 = some p.2 := fun p hp => by
      have z := hall p hp
      rw [Bool.and_eq_true] at z
      obtain ⟨z1, z2⟩ := z
      obtain ⟨y, hy⟩ := Option.isSome_iff_exists.mp z1
      unfold eK at z2
      rw [valV_mem n1 p hp, hy] at z2
      obtain ⟨q, hq, _, eq⟩ := val_in hy
      have z3 : eqV p.2 y = true := z2
      rw [eqV_N (hk p hp) (eq ▸ hl q hq)] at z3
      rw [hy, of_decide_eq_true z3]
    by_cases hm : k ∈ ks.map (·.1)
    · obtain ⟨v, hv, hp⟩ := val_some n1 hm
      rw [hv, one _ hp]
    · have hm2 : k ∉ ls.map (·.1) := fun h => hm (nodup_all n1 (fun x hx => by
        obtain ⟨p, hp, rfl⟩ := List.mem_map.mp hx
        obtain ⟨q, hq, e, _⟩ := val_in (one p hp)
        exact List.mem_map.mpr ⟨q, hq, e⟩) (by rw [List.length_map, List.length_map, hlen]) k h)
      rw [val_none hm, val_none hm2]
  · intro h
    have sub : ∀ {as bs : List (Key × V)}, (as.map (·.1)).Nodup → (∀ k, valV as k = valV bs k) → ∀ x ∈ as.map (·.1), x ∈ bs.map (·.1) := fun {as bs} na hab x hx => by
      obtain ⟨v, hv, _⟩ := val_some na hx
      rw [hab] at hv
      obtain ⟨q, hq, e, _⟩ := val_in hv
      exact List.mem_map.mpr ⟨q, hq, e⟩
    refine ⟨?_, fun p hp => ?_⟩
    · have l1 := nodup_len n1 (sub n1 h)
      have l2 := nodup_len n2 (sub n2 fun k => (h k).symm)
      simp only [List.length_map] at l1 l2
      omega
    · have e1 := valV_mem n1 p hp
      have e2 := e1
      rw [h] at e2
      unfold eK
      rw [e1, e2]
      show (true && eqV p.2 p.2) = true
      rw [eqV_N (hk p hp) (hk p hp), decide_eq_true rfl]
      rfl
theorem sameK_refl {ks : List (Key × V)} (h : RowOk ks) : sameK ks ks = true := (sameK_iff h.nodup h.nodup h.2.1 h.2.1).mpr fun _ => rfl
theorem sameK_congr {ks ls ms : List (Key × V)} (h1 : RowOk ks) (h2 : RowOk ls) (h3 : RowOk ms) (h : ∀ k, valV ls k = valV ms k) : sameK ks ls = sameK ks ms := by
  rw [Bool.eq_iff_iff, sameK_iff h1.nodup h2.nodup h1.2.1 h2.2.1, sameK_iff h1.nodup h3.nodup h1.2.1 h3.2.1]
  exact ⟨fun z k => (z k).trans (h k), fun z k => (z k).trans (h k).symm⟩
end
end Lw

set_option Elab.async false
set_option linter.all false
set_option maxRecDepth 100000
set_option maxHeartbeats 4000000
namespace Lw
open PySem PySem.Spec PyProof.Rows L2
/-! == of dicts of texts, numbers, truth values and None, with both answers -/
def rEqDF : R2 := fun x y H Q => ∃ (a b : Addr) (ks ls : List (Key × V)), x = .ref a ∧ y = .ref b ∧ H a = some (.dK ks) ∧ H b = some (.dK ls) ∧ (ks.map (·.1)).Nodup ∧ (∀ p ∈ ks, flatV p.2 = true) ∧ (∀ p ∈ ls, flatV p.2 = true) ∧ Q (.bl (sameK ks ls)) H
theorem dict_treeF {P : Program} {w : World} {s : Shared} {ks ls : List (Key × V)} {va vb : List (Key × Value)} (ra : KV ks va) (rb : KV ls vb) (nd : (ks.map (·.1)).Nodup) (hk : ∀ p ∈ ks, flatV p.2 = true) (hl : ∀ p ∈ ls, flatV p.2 = true) :
    ∀ k v y, (k, v) ∈ va → valueAt vb k = some y → PySem.W.EqTree P w s 1 v y (eK ks ls k) := by
  intro k v y hm hv
  have r1 := ra.val k
  have r2 := rb.val k
  have nv : (va.map (·.1)).Nodup := ra.keys ▸ nd
  rw [valueAt_of_mem nv hm] at r1
  rw [hv] at r2
  match h1 : valV ks k, h2 : valV ls k with
  | none, _ => rw [h1] at r1; exact absurd r1 id
  | some _, none => rw [h2] at r2; exact absurd r2 id
  | some x, some z =>
    rw [h1] at r1
    rw [h2] at r2
    have e : eK ks ls k = eqV x z := by
      unfold eK
      rw [h1, h2]
    obtain ⟨p, hp, _, ep⟩ := val_in h1
    obtain ⟨q, hq, _, eq⟩ := val_in h2
    rw [e]
    exact .leaf fun A _ => eqAt_V r1 r2 (ep ▸ hk p hp) (eq ▸ hl q hq)
theorem op_eq_dF {X : Cx} (hu : X.A.units + 64 < cLine) : OpR X (compareOp .Eq) rEqDF := by
  intro pins s σ H x y v u Q I rx ry ⟨a, b, ks, ls, ex, ey, ea, eb, nd, hk, hl, q⟩
  subst ex ey
  obtain rfl : v = Value.ref a := rx
  obtain rfl : u = Value.ref b := ry
  obtain ⟨_, ya, va, ra, da⟩ := (I.hok a _ ea : ObjOk X.prog X.w H s.heap a (.dK ks))
  obtain ⟨_, yb, vb, rb, db⟩ := (I.hok b _ eb : ObjOk X.prog X.w H s.heap b (.dK ls))
  refine PySem.W.eq_dictsT (knd := mixKind X.prog X.w) (e := eK ks ls) ya yb da db (dict_treeF ra rb nd hk hl) (n := 1) (by omega) ?_
  rw [dict_all ra rb]
  exact ⟨.bl _, H, I, rfl, q⟩
end Lw

set_option Elab.async false
set_option linter.all false
set_option maxRecDepth 100000
set_option maxHeartbeats 4000000
namespace Oq
open PySem PySem.Spec PyProof.Rows L2
/-! == and != of an instance with an own __eq__ -/
/-- what it is compared with, and the type of that -/
inductive Cv (C : Addr) (H : Hp) : V → Value → Prop where
  | ins {b dx D : Addr} {fs : List (Str × V)} (h : H b = some (.ins D dx fs)) : Cv C H (.ref b) (.ref D)
  | int (i : Int) : Cv C H (.int i) (.type "int")
  | bl (b : Bool) : Cv C H (.bl b) (.type "bool")
  | dic {p : Addr} {kvs : List (Key × V)} (h : H p = some (.dK kvs)) : Cv C H (.ref p) (.type "dict")
  | non : Cv C H .non (.type "NoneType")
  | str (z : Str) : Cv C H (.str z) (.type "str")
  | tup {p : Addr} {xs : List V} (h : H p = some (.tup xs)) : Cv C H (.ref p) (.type "tuple")
  | lst {p : Addr} {xs : List V} (h : H p = some (.lst xs)) : Cv C H (.ref p) (.type "list")
section
variable {X : Cx} {pins : List (Addr × Obj)} {σ : L2.St} {H : Hp} {s : Shared} {C : Addr}
theorem looks_ty {v : Value} {T : String} (h : ∀ s' : Shared, (∀ b o, s.heap.get? b = some o → s'.heap.get? b = some o) → s'.TypeIs v T) : PySem.W.Looks (model X.prog X.w) s.heap (typeOf v) (.type T) :=
  fun A Q E s' kept q => wpAny_typeOf (h s' kept) q
theorem Cv.looks (I : Inv X pins σ H s) {y : V} {u t : Value} (c : Cv C H y t) (r : RelV y u) : PySem.W.Looks (model X.prog X.w) s.heap (typeOf u) t := by
  cases c with
  | @ins b dx D fs h =>
    cases (show u = Value.ref b from r)
    obtain ⟨m, J, _⟩ := ins_get I.hok h
    obtain ⟨od, J, _⟩ := J.look
    exact J.type
  | non => cases (show u = Value.none from r); exact looks_ty fun _ _ => rfl
  | bl b => cases (show u = Value.bool b from r); exact looks_ty fun _ _ => rfl
  | int i => obtain ⟨t, e⟩ := (show ∃ t, u = Value.int i t from r); cases e; exact looks_ty fun _ _ => rfl
  | @dic p kvs h =>
    cases (show u = Value.ref p from r)
    obtain ⟨_, _, vs, _, o, es, ep, h1, h2, _⟩ := (show ObjOk X.prog X.w H s.heap p (.dK kvs) from I.hok p _ h)
    exact looks_ty fun s' kept => ⟨o, kept _ _ h1, h2.1⟩
  | str z => obtain ⟨t, e⟩ := (show ∃ t, u = Value.str z t from r); cases e; exact looks_ty fun _ _ => rfl
  | @tup p xs h =>
    cases (show u = Value.ref p from r)
    obtain ⟨_, its, rv, o, ho, hc, n, hd⟩ := (show ObjOk X.prog X.w H s.heap p (.tup xs) from I.hok p _ h)
    exact looks_ty fun s' kept => ⟨o, kept _ _ ho, hc⟩
  | @lst p xs h =>
    cases (show u = Value.ref p from r)
    obtain ⟨_, its, n, rv, ho⟩ := (show ObjOk X.prog X.w H s.heap p (.lst xs) from I.hok p _ h)
    exact looks_ty fun s' kept => ⟨_, kept _ _ ho, rfl⟩
/-- an own def, called below -/
theorem own_call {A : Around} {Ex : Value → Shared → Prop} {k : Nat} {f : Addr} {fd : FuncData} {ps : List Str} {sp : Sp} {us : List Value} {vs : List V} {Q : VK} (fr : A.frames = some X.stack) (room : Room k A) (F : FnOk X.prog X.w X.K X.mg X.base CX0 k f fd ps sp)
    (bt : Binds X.K fd ps []) (I : Inv X pins σ H s) (r : Vals vs us) (pr : sp vs H Q E0) : wpAny (model X.prog X.w) A (call (.ref f) us) (EP X pins σ Q) Ex s := by
  have e := I.env0
  have n : us.length = ps.length := by rw [← r.length]; exact F.len _ _ _ _ pr
  have b1 := bt s us I.kIn (by rw [List.append_nil]; exact n)
  rw [List.append_nil] at b1
  refine wpAny_call (codeAny_mono (F.run A X.stack s H ⟨us, []⟩ us vs Q E0 room ⟨fr, e.mod, e.bs, e.bsz, e.funs, e.frf, e.hok, e.bare⟩ b1 r pr) ?_)
  intro rr s2 z
  match rr, z with
  | .error e, z => exact z.elim
  | .ok (.ret u), z => exact I.after z
  | .ok .next, z => exact z.elim
  | .ok .brk, z => exact z.elim
  | .ok .cont, z => exact z.elim
/-- what a class with an own __eq__ and no own __ne__ has -/
structure EqC (K : PySem.W.Frag) (C f : Addr) : Prop where
  eq : PySem.W.findIn K (.ref C) "__eq__" = some (some (.ref f))
  ne : PySem.W.findIn K (.ref C) "__ne__" = some (some (.builtin "object.__ne__"))
  fn : PySem.W.isFn K (.ref f) = true
  ob : PySem.W.mroIn K C (.type "object") = some true
def rOwn (K : PySem.W.Frag) (C : Addr) (sp : Sp) (g : Bool → Bool) : R2 := fun x y H Q => ∃ (a dx : Addr) (fs : List (Str × V)) (t : Value), x = .ref a ∧ H a = some (.ins C dx fs) ∧ Cv C H y t ∧ PySem.W.notFirst K C t = true ∧
  sp [.ref a, y] H (fun v H' => ∃ b, v = .bl b ∧ Q (.bl (g b)) H') E0
variable {k : Nat} {f : Addr} {fd : FuncData} {ps : List Str} {sp : Sp}
theorem op_eqI (E : EqC X.K C f) (F : FnOk X.prog X.w X.K X.mg X.base CX0 k f fd ps sp) (bt : Binds X.K fd ps []) (room : Room k X.A) : OpR X (compareOp .Eq) (rOwn X.K C sp id) := by
  intro pins s σ H x y u v Q I rx ry h
  obtain ⟨a, dx, fs, t, rfl, ha, c, nf, pr⟩ := h
  cases (show u = Value.ref a from rx)
  obtain ⟨m, J, _⟩ := ins_get I.hok ha
  obtain ⟨od, J, _⟩ := J.look
  have fr := I.ok.frames
  obtain ⟨m2, hF⟩ := I.fr
  show wpAny (model X.prog X.w) X.A (richCompare .Eq (.ref a) v) (EP X pins σ Q) X.xe s
  refine PySem.W.cmp_K (op := .Eq) room.units0 hF I.ok.mod.kin J (c.looks I ry) nf E.eq E.fn (thn (own_call fr room F bt I (vs := [.ref a, y]) (.cons (show RelV (.ref a) (Value.ref a) from rfl) (.cons ry .nil)) pr) ?_)
  rintro r s2 ⟨z, H2, I2, rz, b, rfl, q⟩
  cases (show r = Value.bool b from rz)
  exact ⟨.bl b, H2, I2, rfl, q⟩
/-- object.__ne__ on such an instance: its own __eq__ is asked -/
theorem ne_entry {A : Around} {R : Fin → Shared → Prop} {Ex : Value → Shared → Prop} {a : Addr} {ox : Obj} {od : Option Obj} {u : Value} (hu : A.units < cLine) (E : EqC X.K C f) (KI : X.K.In s.heap) (J : PySem.W.InstAt s.heap a ox C od)
    (h : wpAny (model X.prog X.w) A (call (.ref f) [.ref a, u]) (fun r s' => ∃ b, r = .bool b ∧ R (.done (.ret (.bool (!b)))) s') Ex s) : wpAny (model X.prog X.w) A (Builtin.«object.__ne__» ⟨[.ref a, u], []⟩) R Ex s := by
  unfold Builtin.«object.__ne__»
  show wpAny _ _ (slotArgs "__ne__" 1 ⟨[.ref a, u], []⟩ >>= _) _ _ s
  refine wpAny_bind (wpAny_of_eq (rfl : slotArgs "__ne__" 1 ⟨[.ref a, u], []⟩ = pure (.ref a, [u])) ?_)
  refine wpAny_bind (wpAny_cRoomFor hu (wpAny_bind ?_))
  refine PySem.W.ifBound_K KI J E.eq E.fn (wpAny_mono h ?_ fun _ _ z => z)
  rintro r s' ⟨b, rfl, q⟩
  exact wpAny_bind (wpAny_truthy_bool (wpAny_pure q))
theorem ne_call {A : Around} {R : Value → Shared → Prop} {Ex : Value → Shared → Prop} {a : Addr} {ox : Obj} {od : Option Obj} {u : Value} (hu : A.units + 1 < cLine) (E : EqC X.K C f) (KI : X.K.In s.heap) (J : PySem.W.InstAt s.heap a ox C od)
    (h : wpAny (model X.prog X.w) A.in1 (call (.ref f) [.ref a, u]) (fun r s' => ∃ b, r = .bool b ∧ R (.bool (!b)) s') (fun _ _ => False) s) : wpAny (model X.prog X.w) A (tryCompare (.ref a) "__ne__" u) (fun r s' => ∃ v, r = some v ∧ v ≠ .notImplemented ∧ R v s') Ex s := by
  have run : wpAny (model X.prog X.w) A (call (.builtin "object.__ne__") [.ref a, u]) (fun v s' => ∃ b, v = .bool b ∧ R v s') Ex s := by
    refine wpAny_call (codeAny_call_builtin F.cmp_object.ne.plain F.cmpEntry_ne (PySem.W.check_slot F.cmpKind_ne F.cmpSplit_ne (J.type.andThen (PySem.W.looks_mroIn KI E.ob)) (F.cmpArgs_ne _ _) ?_))
    refine ne_entry (by show A.units + 1 < cLine; exact hu) E KI J (wpAny_mono h ?_ fun _ _ z => z.elim)
    rintro r s' ⟨b, rfl, q⟩
    exact ⟨b, rfl, _, rfl, q⟩
  unfold tryCompare
  have last : wpAny (model X.prog X.w) A (callSpecialIfBound? (.ref a) "__ne__" [u]) (fun r s' => ∃ b, r = some (.bool b) ∧ R (.bool b) s') Ex s := by
    simp only [callSpecialIfBound?, bindSpecialIfBound?]
    refine wpAny_holding (wpAny_bind (wpAny_bind (wpAny_bind (J.type.here ((PySem.W.looks_findIn KI E.ne).here (wpAny_bind (wpAny_askSetting (wpAny_ite ?_))))))))
    have go : wpAny (model X.prog X.w) A (call (.builtin "object.__ne__") ([.ref a] ++ [u]) >>= fun v => pure (some v)) (fun r s' => ∃ b, r = some (.bool b) ∧ R (.bool b) s') Ex s := by
      refine wpAny_bind (wpAny_mono run ?_ fun _ _ z => z)
      rintro v s' ⟨b, rfl, q⟩
      exact wpAny_pure ⟨b, rfl, q⟩
    split
    · exact wpAny_bind (wpAny_of_eq (F.cmp_object.ne.bind _) (wpAny_pure (by exact go)))
    · exact wpAny_tryCatch (wpAny_bind (wpAny_of_eq (F.cmp_object.ne.bind _) (wpAny_pure (by exact go))))
  refine wpAny_bind (wpAny_mono last ?_ fun _ _ z => z)
  rintro r s' ⟨b, rfl, q⟩
  exact wpAny_pure ⟨_, rfl, (fun z => by cases z), q⟩
theorem rich_ne {R : Value → Shared → Prop} {Ex : Value → Shared → Prop} {A : Around} {a : Addr} {ox : Obj} {od : Option Obj} {u t : Value} (hu : A.units < cLine) (KI : X.K.In s.heap) (J : PySem.W.InstAt s.heap a ox C od) (look : PySem.W.Looks (model X.prog X.w) s.heap (typeOf u) t)
    (nf : PySem.W.notFirst X.K C t = true) (h : wpAny (model X.prog X.w) A (tryCompare (.ref a) "__ne__" u) (fun r s' => ∃ v, r = some v ∧ v ≠ .notImplemented ∧ R v s') Ex s) : wpAny (model X.prog X.w) A (richCompare .NotEq (.ref a) u) R Ex s := by
  have sub : t = .ref C ∨ PySem.W.subIn X.K t (.ref C) = some false := (Bool.or_eq_true_iff.mp nf).imp beq_iff_eq.mp beq_iff_eq.mp
  have go : ∀ K2 : Option Value → Sem Value, (∀ v, K2 (some v) = pure v) → wpAny (model X.prog X.w) A (tryCompare (.ref a) "__ne__" u >>= K2) R Ex s := by
    intro K2 e
    refine wpAny_bind (wpAny_mono h ?_ fun _ _ z => z)
    rintro r s' ⟨v, rfl, _, q⟩
    rw [e v]
    exact wpAny_pure q
  unfold richCompare
  simp only [oneThing_ref]
  refine wpAny_holding (wpAny_bind (wpAny_cRoomFor hu (wpAny_bind (J.type.here (wpAny_bind (look.here ?_))))))
  split
  · rename_i q
    rcases sub with e | e
    · rw [e] at q
      simp at q
    · refine wpAny_bind ((PySem.W.looks_subIn KI e).here ?_)
      simp only [Bool.false_eq_true, if_false]
      exact go _ fun _ => rfl
  · refine wpAny_bind (wpAny_pure ?_)
    simp only [Bool.false_eq_true, if_false]
    exact go _ fun _ => rfl
theorem op_neI (E : EqC X.K C f) (F : FnOk X.prog X.w X.K X.mg X.base CX0 k f fd ps sp) (bt : Binds X.K fd ps []) (room : Room (k + 1) X.A) : OpR X (compareOp .NotEq) (rOwn X.K C sp Bool.not) := by
  intro pins s σ H x y u v Q I rx ry h
  obtain ⟨a, dx, fs, t, rfl, ha, c, nf, pr⟩ := h
  cases (show u = Value.ref a from rx)
  obtain ⟨m, J, _⟩ := ins_get I.hok ha
  obtain ⟨od, J, _⟩ := J.look
  have fr := I.ok.frames
  have r1 : Room k X.A.in1 := room.in1
  show wpAny (model X.prog X.w) X.A (richCompare .NotEq (.ref a) v) (EP X pins σ Q) X.xe s
  refine rich_ne room.units0 I.kIn J (c.looks I ry) nf (ne_call r1.units0 E I.kIn J (thn (own_call (A := X.A.in1) fr r1 F bt I (vs := [.ref a, y]) (.cons (show RelV (.ref a) (Value.ref a) from rfl) (.cons ry .nil)) pr) ?_))
  rintro r s2 ⟨z, H2, I2, rz, b, rfl, q⟩
  cases (show r = Value.bool b from rz)
  exact ⟨b, rfl, .bl (!b), H2, I2, rfl, q⟩
end
end Oq

set_option Elab.async false
set_option linter.all false
set_option maxRecDepth 100000
set_option maxHeartbeats 40000000
namespace Lw
open PySem PySem.Spec PyProof.Rows L2
abbrev sNamed : Stmt := inClass (top 15) 1
abbrev sHabE : Stmt := inClass (top 15) 3
section
variable {P : Program} {w : World} {K : PySem.W.Frag} {mg : Str → Option Value} {base : Heap}
/-! habits named, compared, turned -/
theorem told_merge (y : Hv) : mergeK [] (toldV y) = toldV y := rfl
def spNamed (CH : Addr) : Sp := fun vs H Q _ => ∃ (h : Addr) (y : Hv), vs = [.ref h] ∧ HabAtV CH H h y ∧ ∀ q G, Same H G → H q = none → G q = some (.dK (toldV y)) → Q (.ref q) G
theorem scNamed : FnScope ["self"] ["self"] (defScope sNamed) := ⟨rfl, rfl, rfl, by decide +kernel, rfl, by decide +kernel, by decide +kernel⟩
theorem ok_named {CH f : Addr} {fd : FuncData} (F : MethD K "named" "Habits.named" sNamed f fd) (T : TxtHb K CH) : FnOk P w K mg base CX0 1 f fd ["self"] (spNamed CH) := by
  refine F.ok scNamed (fun vs H Q E h => ?_) (fun cdv A outer s H vs Q E hr h => ?_)
  · obtain ⟨h, y, rfl, _⟩ := h
    rfl
  · obtain ⟨h, y, rfl, ⟨dx, hh⟩, k⟩ := h
    refine ⟨_, PSs.nox (pss_one (ps_ret (pe_disp (pps_cons pe_str (pe_fld (pv 0) (by rfl)) (pps_cons pe_str (pe_fld (pv 0) (by rfl)) (pps_cons pe_str (pe_fld (pv 0) (by rfl)) (pps_cons pe_str (pe_fld (pv 0) (by rfl)) pps_nil)))) (by rfl) (by rfl) (fun z => by cases z) (by decide)))), ?_⟩
    intro t nt
    have sT := Lw.Same.new (o := .dK []) (Same.refl H) nt
    have h2 := sT _ _ hh
    refine ⟨_, rfl, h, CH, dx, _, y.pr, rfl, h2, T.cl, T.n1, rfl, _, rfl, h, CH, dx, _, y.la, rfl, h2, T.cl, T.n2, rfl, _, rfl, h, CH, dx, _, y.go, rfl, h2, T.cl, T.n3, rfl, _, rfl, h, CH, dx, _, y.sh, rfl, h2, T.cl, T.n4, rfl, upd_same, toldV y, rfl, (by show 4 ≤ 15; decide), ?_⟩
    exact k t _ (same_at nt sT) nt upd_same
def FlatH (y : Hv) : Prop := flatV y.pr = true ∧ flatV y.la = true ∧ flatV y.go = true ∧ flatV y.sh = true
theorem FlatH.all {y : Hv} (h : FlatH y) : ∀ p ∈ toldV y, flatV p.2 = true := fun p hp => by
  obtain ⟨h1, h2, h3, h4⟩ := h
  rcases List.mem_cons.mp hp with rfl | hp
  · exact h1
  rcases List.mem_cons.mp hp with rfl | hp
  · exact h2
  rcases List.mem_cons.mp hp with rfl | hp
  · exact h3
  rcases List.mem_cons.mp hp with rfl | hp
  · exact h4
  cases hp
theorem told_nodup (y : Hv) : ((toldV y).map (·.1)).Nodup := by
  show ([Sum.inr "present", Sum.inr "lacking", Sum.inr "gone", Sum.inr "shared"] : List Key).Nodup
  decide +kernel
def sameH (y z : Hv) : Bool := sameK (toldV y) (toldV z)
/-- what habits are compared with that is none -/
inductive NoHab (H : Hp) : V → Prop where
  | non : NoHab H .non
  | str (z : Str) : NoHab H (.str z)
  | dic {p : Addr} {kvs : List (Key × V)} (h : H p = some (.dK kvs)) : NoHab H (.ref p)
  | lst {p : Addr} {xs : List V} (h : H p = some (.lst xs)) : NoHab H (.ref p)
def spHabE (CH : Addr) : Sp := fun vs H Q _ => ∃ (h1 : Addr) (v : V) (y : Hv), vs = [.ref h1, v] ∧ HabAtV CH H h1 y ∧ FlatH y ∧ ((∃ h2 z, v = .ref h2 ∧ HabAtV CH H h2 z ∧ FlatH z ∧ ∀ G, Same H G → Q (.bl (sameH y z)) G) ∨ (NoHab H v ∧ Q (.bl false) H))
theorem scHabE : FnScope ["self", "other"] ["self", "other"] (defScope sHabE) := ⟨rfl, rfl, rfl, by decide +kernel, rfl, by decide +kernel, by decide +kernel⟩
structure KitH (K : PySem.W.Frag) (CH : Addr) : Prop where
  non : PySem.W.kitOne K (.type "NoneType") (.ref CH) = some false
  str : PySem.W.kitOne K (.type "str") (.ref CH) = some false
  dict : PySem.W.kitOne K (.type "dict") (.ref CH) = some false
  list : PySem.W.kitOne K (.type "list") (.ref CH) = some false
structure TxtHc (K : PySem.W.Frag) (CH : Addr) : Prop where
  cl : Cls K CH
  ha : PySem.W.findIn K (.ref CH) "__class__" = some (some (.builtin "object.__class__"))
  hn : PySem.W.specialIn K (.builtin "object.__class__") "__get__" = some (some (.builtin "getset_descriptor.__get__"))
  ht : PySem.W.takesIn K (.builtin "object.__class__") = some true
  hm : PySem.W.mroIn K CH (.type "object") = some true
theorem kit_me {K : PySem.W.Frag} {D : Addr} : PySem.W.kitOne K (.ref D) (.ref D) = some true := by
  unfold PySem.W.kitOne
  rw [if_pos (beq_self_eq_true _)]
theorem ok_habE {CH f fN : Addr} {fd fdN : FuncData} (F : MethD K "__eq__" "Habits.__eq__" sHabE f fd) (T : TxtHc K CH) (KH : KitH K CH) (gH : mg "Habits" = some (.ref CH)) (hi : mg "isinstance" = none) (MN : Meth K CH "named" fN) (FN : FnOk P w K mg base CX0 1 fN fdN ["self"] (spNamed CH)) (bN : Binds K fdN ["self"] []) : FnOk P w K mg base CX0 2 f fd ["self", "other"] (spHabE CH) := by
  refine F.ok scHabE (fun vs H Q E h => ?_) (fun cdv A outer s H vs Q E hr h => ?_)
  · obtain ⟨h1, v, y, rfl, _⟩ := h
    rfl
  · obtain ⟨h1, v, y, rfl, ⟨d1, e1⟩, fy, hv⟩ := h
    refine ⟨_, PSs.nox (pss_one (ps_ret (pe_and (pe_callB call_isi (by rfl) hi (by decide +kernel) (pa_cons (pv 1) (pa_cons (pe_glob (v := .ref CH) rfl gH rfl) pa_nil)))
      (pe_one (pe_cmpR (r := rEqDF) (by exact op_eq_dF hr.units) (pe_meth0 (pv 0) T.cl MN FN hr bN .nil pass0) (pe_meth0 (pv 1) T.cl MN FN hr bN .nil pass0) (nomark _)))))), ?_⟩
    rcases hv with ⟨h2, z, rfl, ⟨d2, e2⟩, fz, k⟩ | ⟨no, k⟩
    · refine ⟨_, rfl, _, _, _, _, true, rfl, .own CH, .base (.ins e2 T.cl T.ha T.hn T.ht T.hm), kit_me, true, rfl, it_bt rfl ?_⟩
      refine ⟨_, rfl, h1, d1, _, rfl, e1, rfl, h1, y, rfl, ⟨d1, e1⟩, fun q1 G1 s1 n1 g1 => ?_⟩
      refine ⟨_, rfl, h2, d2, _, rfl, s1 _ _ e2, rfl, h2, z, rfl, ⟨d2, s1 _ _ e2⟩, fun q2 G2 s2 n2 g2 => ?_⟩
      exact ⟨q1, q2, _, _, rfl, rfl, s2 _ _ g1, g2, told_nodup y, fy.all, fz.all, k G2 (s1.trans s2)⟩
    · cases no with
      | non => exact ⟨_, rfl, _, _, _, _, false, rfl, .own CH, ty_non, KH.non, false, rfl, itFb rfl k⟩
      | str z => exact ⟨_, rfl, _, _, _, _, false, rfl, .own CH, ty_str z, KH.str, false, rfl, itFb rfl k⟩
      | dic h => exact ⟨_, rfl, _, _, _, _, false, rfl, .own CH, .base (.dK h), KH.dict, false, rfl, itFb rfl k⟩
      | lst h => exact ⟨_, rfl, _, _, _, _, false, rfl, .own CH, .base (.lst h), KH.list, false, rfl, itFb rfl k⟩
end
end Lw

set_option Elab.async false
set_option linter.all false
set_option maxRecDepth 100000
set_option maxHeartbeats 2000000
namespace Mm
open PySem PySem.Spec PyProof.Rows L2
/-! one dict merged into another: {**a, **b}, f(**d) -/
section
variable {prog : Program} {w : World} {κ : Type} [DecidableEq κ] {knd : KeyKind prog w κ} {A : Around} {E : Value → Shared → Prop} {s : Shared}
theorem few {es : Array DictEntry} {kvs : List (κ × Value)} (h : es.toList.length = kvs.length) (hz : kvs.length ≤ sizeLine) : es.size ≤ sizeLine := by
  have e : es.toList.length = es.size := by simp
  omega
/-- an entry put, its hash known -/
theorem put_one {d : Addr} {kvs : List (κ × Value)} {k : κ} {key v : Value} {Q : Unit → Shared → Prop} (ik : knd.is k key = true) (m : s.heap.DictOf knd d kvs) (q : ∀ h', h'.DictOf knd d (stored kvs k v) → Heap.SameBut d s.heap h' → Q () { s with heap := h' })
    (hz : kvs.length ≤ sizeLine) : wpAny (model prog w) A (dictPut d (knd.hash k) key v) Q E s := by
  obtain ⟨o, es, ep, ho, hc, hd, hk, hp, hn⟩ := m
  have hes : es.size ≤ sizeLine := few hp.length hz
  have same : (es.findIdx? fun e => knd.is k e.key) = kvs.findIdx? fun kv => decide (kv.1 = k) := by
    rw [← hp.findIdx k]
    obtain ⟨l⟩ := es
    simp
  unfold dictPut
  apply wpAny_bind
  apply wpAny_dictFind_of ik ho hd hk
  cases at_ : es.findIdx? fun e => knd.is k e.key with
  | some i =>
    have q1 := hc.mapDict fun es => es.modify i fun e => { e with val := v }
    refine wpAny_updateDict ho hd (q _ ⟨_, _, ep, Heap.get?_update_self _ ho (Obj.isFreed_of_dict (Obj.data_mapDict hd _)), q1, Obj.data_mapDict hd _, hk.modify _ _, ?_, ?_⟩ (Heap.SameBut.update ..))
    · have there : (es.toList.findIdx? fun e => knd.is k e.key) = some i := by
        rw [← at_]
        obtain ⟨l⟩ := es
        simp
      have z := hp.modify hn there v
      rw [stored, if_pos (any_of_findIdx_some (same ▸ at_))]
      obtain ⟨l⟩ := es
      simpa using z
    · rw [stored, if_pos (any_of_findIdx_some (same ▸ at_)), keys_map_store]
      exact hn
  | none =>
    have out : k ∉ kvs.map (·.1) := not_mem_of_findIdx_none (same ▸ at_)
    have no : ¬ (kvs.any fun kv => decide (kv.1 = k)) = true := fun z => by
      obtain ⟨kv, h1, h2⟩ := List.any_eq_true.mp z
      exact out (List.mem_map.mpr ⟨kv, h1, of_decide_eq_true h2⟩)
    refine wpAny_updateDictKeys (hz := hes) ho hd (q _ ⟨_, _, ep + 1, Heap.get?_update_self _ ho (Obj.isFreed_of_dict (Obj.data_mapDictKeys hd _)), hc.mapDictKeys _, Obj.data_mapDictKeys hd _, hk.push ik _, ?_, ?_⟩ (Heap.SameBut.update ..))
    · have z := hp.append ik (knd.hash k) v
      rw [stored, if_neg no]
      obtain ⟨l⟩ := es
      simpa using z
    · rw [stored, if_neg no, List.map_append, List.nodup_append]
      refine ⟨hn, by simp, fun x hx y hy e => ?_⟩
      rw [List.map_cons, List.map_nil, List.mem_singleton] at hy
      exact out ((show x = k from e.trans hy) ▸ hx)
theorem no_ref {k : κ} {a : Addr} : ¬ knd.is k (.ref a) = true := fun h => by
  have z := knd.byValue k _ h
  cases z
/-- one plain dict merged into another -/
theorem merge_one {d o : Addr} {kvs more : List (κ × Value)} {Q : Unit → Shared → Prop} (ne : d ≠ o) (ns : (o == sysModules) = false) (hd : s.heap.DictOf knd d kvs) (ho : s.heap.DictOf knd o more)
    (q : ∀ h', h'.DictOf knd d (merged kvs more) → h'.DictOf knd o more → Heap.SameBut d s.heap h' → Q () { s with heap := h' }) (hz : kvs.length + more.length ≤ sizeLine) : wpAny (model prog w) A (mergeMapping d (.ref o) false) Q E s := by
  obtain ⟨od, esd, epd, hod, hcd, hdd, hkd, hpd, hnd⟩ := id hd
  obtain ⟨oo, eso, epo, hoo, hco, hdo, hko, hpo, hno⟩ := id ho
  have len : more.length = eso.size := by
    rw [← hpo.length]
    simp
  unfold mergeMapping
  refine wpAny_bind (wpAny_isInstance ho.typeIs isSubtype_dict_dict ?_)
  dsimp only
  rw [if_pos rfl]
  refine wpAny_bind (wpAny_specialOf ho.typeIs F.slot_dict_iter.lookup (wpAny_bind (wpAny_pure ?_)))
  simp only [beq_self_eq_true]
  rw [if_neg (by rw [ns]; exact Bool.false_ne_true)]
  refine wpAny_bind (wpAny_dictEntries hod hdd ?_)
  have loop : wpAny (model prog w) A (do
      let l ← dictEntries o
      let epoch ← dictEpoch o
      forIn (List.range l.size) PUnit.unit fun i (_ : PUnit) => (do
          let l2 ← dictEntries o
          match l2[i]? with
            | some e => do
              holding [e.key, e.val] (dictPut d e.hash e.key e.val)
              let ep2 ← dictEpoch o
              if (ep2 != epoch) = true then do
                  (unsupported "dict.changed-during-merge" : Sem PUnit)
                  pure (ForInStep.yield PUnit.unit)
                else pure (ForInStep.yield PUnit.unit)
            | _ => do
              (unsupported "dict.changed-during-merge" : Sem PUnit)
              pure (ForInStep.yield PUnit.unit) : Sem (ForInStep PUnit))
      pure ()) Q E s := by
    refine wpAny_bind (wpAny_dictEntries hoo hdo (wpAny_bind (wpAny_dictEpoch hoo hdo (wpAny_bind ?_))))
    rw [List.range_eq_range']
    refine wpAny_forIn_list _ (fun rest _ s' => ∃ h' i, s' = { s with heap := h' } ∧ rest = List.range' i (eso.size - i) ∧ i ≤ eso.size ∧ h'.DictOf knd d (merged kvs (more.take i)) ∧ h'.get? o = some oo ∧ Heap.SameBut d s.heap h') _ ?_ ?_ _ _
      ⟨s.heap, 0, rfl, by simp, Nat.zero_le _, by simpa [merged] using hd, hoo, Heap.SameBut.refl _ _⟩
    · rintro x rest b s' ⟨h', i, rfl, hr, hi, hd', hoo', hs'⟩
      have hlt : i < eso.size := by
        rcases Nat.lt_or_ge i eso.size with h | h
        · exact h
        · rw [Nat.sub_eq_zero_of_le h] at hr
          cases hr
      have e0 : eso.size - i = (eso.size - (i + 1)) + 1 := by omega
      rw [e0, List.range'_succ] at hr
      injection hr with hx hrest
      subst hx
      refine wpAny_bind (wpAny_dictEntries hoo' hdo ?_)
      rw [Array.getElem?_eq_getElem hlt]
      obtain ⟨⟨k, v⟩, hkv⟩ : ∃ kv, more[x]? = some kv := ⟨more[x]'(by rw [len]; exact hlt), List.getElem?_eq_getElem _⟩
      obtain ⟨ik, hval⟩ := hpo.get? (e := eso[x]) (by simp [hlt]) hkv
      obtain ⟨k2, ik2, hhash⟩ := hko eso[x] (Array.getElem_mem hlt)
      obtain rfl : k2 = k := knd.inj _ _ _ ik2 ik
      have hm : (merged kvs (more.take x)).length ≤ sizeLine := by
        have e1 := merged_length_le kvs (more.take x)
        have e2 : (more.take x).length ≤ more.length := by rw [List.length_take]; omega
        omega
      dsimp only
      rw [hhash, hval]
      refine wpAny_bind (wpAny_holding (put_one ik hd' (fun h2 hd2 hs2 => ?_) hm))
      have hoo2 : h2.get? o = some oo := (hs2.2 o (Ne.symm ne)).trans hoo'
      refine wpAny_bind (wpAny_dictEpoch hoo2 hdo ?_)
      rw [if_neg (by simp)]
      exact wpAny_pure ⟨h2, x + 1, rfl, hrest, hlt, by rw [merged_take_succ kvs more x (k2, v) hkv]; exact hd2, hoo2, hs'.trans hs2⟩
    · rintro b s' ⟨h', i, rfl, hr, hi, hd', hoo', hs'⟩
      have hin : i = eso.size := by
        rcases Nat.lt_or_ge i eso.size with h | h
        · have e0 : eso.size - i = (eso.size - (i + 1)) + 1 := by omega
          rw [e0, List.range'_succ] at hr
          cases hr
        · exact Nat.le_antisymm hi h
      refine wpAny_pure (q h' ?_ ⟨oo, eso, epo, hoo', hco, hdo, hko, hpo, hno⟩ hs')
      rw [hin, ← len, List.take_length] at hd'
      exact hd'
  split
  · refine wpAny_bind (wpAny_dictEntries hoo hdo ?_)
    refine wpAny_bind (wpAny_of_eq (a := PUnit.unit) ?_ loop)
    rw [← Array.forIn_toList]
    refine forIn_yield_id _ fun e he c => ?_
    obtain ⟨k, ik, _⟩ := hko e (Array.mem_toList_iff.mp he)
    generalize e.key = v at ik ⊢
    cases v with
    | ref a => exact absurd ik no_ref
    | _ => rfl
  · exact loop
/-- .. whose keys are new, each asked for -/
theorem merge_new {d o : Addr} {kvs more : List (κ × Value)} {Q : Unit → Shared → Prop} (ne : d ≠ o) (ns : (o == sysModules) = false) (hd : s.heap.DictOf knd d kvs) (ho : s.heap.DictOf knd o more) (nw : ((kvs ++ more).map (·.1)).Nodup)
    (q : ∀ h', h'.DictOf knd d (kvs ++ more) → h'.DictOf knd o more → Heap.SameBut d s.heap h' → Q () { s with heap := h' }) (hz : kvs.length + more.length ≤ sizeLine) : wpAny (model prog w) A (mergeMapping d (.ref o) true) Q E s := by
  obtain ⟨od, esd, epd, hod, hcd, hdd, hkd, hpd, hnd⟩ := id hd
  obtain ⟨oo, eso, epo, hoo, hco, hdo, hko, hpo, hno⟩ := id ho
  have len : more.length = eso.size := by
    rw [← hpo.length]
    simp
  unfold mergeMapping
  refine wpAny_bind (wpAny_isInstance ho.typeIs isSubtype_dict_dict ?_)
  dsimp only
  rw [if_pos rfl]
  refine wpAny_bind (wpAny_specialOf ho.typeIs F.slot_dict_iter.lookup (wpAny_bind (wpAny_pure ?_)))
  simp only [beq_self_eq_true]
  rw [if_neg (by rw [ns]; exact Bool.false_ne_true)]
  refine wpAny_bind (wpAny_dictEntries hod hdd ?_)
  have turns : ∀ (F : Nat → PUnit → Sem (ForInStep PUnit)), (∀ (i : Nat) (hi : i < eso.size) (s' : Shared) (R : ForInStep PUnit → Shared → Prop), s'.heap.get? o = some oo → (∀ (kk : κ) (e : DictEntry), eso[i]? = some e → knd.is kk e.key = true → e.hash = knd.hash kk → ∀ (acc : List (κ × Value)), s'.heap.DictOf knd d acc → kk ∉ acc.map (·.1) → acc.length ≤ sizeLine →
      (∀ h2, h2.DictOf knd d (stored acc kk e.val) → Heap.SameBut d s'.heap h2 → R (.yield PUnit.unit) { s' with heap := h2 }) → wpAny (model prog w) A (F i PUnit.unit) R E s')) → wpAny (model prog w) A (do forIn (List.range eso.size) PUnit.unit F; pure ()) Q E s := by
    intro F hF
    refine wpAny_bind ?_
    rw [List.range_eq_range']
    refine wpAny_forIn_list _ (fun rest _ s' => ∃ h' i, s' = { s with heap := h' } ∧ rest = List.range' i (eso.size - i) ∧ i ≤ eso.size ∧ h'.DictOf knd d (kvs ++ more.take i) ∧ h'.get? o = some oo ∧ Heap.SameBut d s.heap h') _ ?_ ?_ _ _
      ⟨s.heap, 0, rfl, by simp, Nat.zero_le _, by simpa using hd, hoo, Heap.SameBut.refl _ _⟩
    · rintro x rest b s' ⟨h', i, rfl, hr, hi, hd', hoo', hs'⟩
      have hlt : i < eso.size := by
        rcases Nat.lt_or_ge i eso.size with h | h
        · exact h
        · rw [Nat.sub_eq_zero_of_le h] at hr
          cases hr
      have e0 : eso.size - i = (eso.size - (i + 1)) + 1 := by omega
      rw [e0, List.range'_succ] at hr
      injection hr with hx hrest
      subst hx
      obtain ⟨⟨k, v⟩, hkv⟩ : ∃ kv, more[x]? = some kv := ⟨more[x]'(by rw [len]; exact hlt), List.getElem?_eq_getElem _⟩
      obtain ⟨ik, hval⟩ := hpo.get? (e := eso[x]) (by simp [hlt]) hkv
      obtain ⟨k2, ik2, hhash⟩ := hko eso[x] (Array.getElem_mem hlt)
      obtain rfl : k2 = k := knd.inj _ _ _ ik2 ik
      have out : k2 ∉ (kvs ++ more.take x).map (·.1) := fun m => by
        have hl : x < more.length := by rw [len]; exact hlt
        have e1 : more = more.take x ++ (k2, v) :: more.drop (x + 1) := by
          conv => lhs; rw [← List.take_append_drop x more, List.drop_eq_getElem_cons hl, (List.getElem?_eq_some_iff.mp hkv).2]
        rw [e1, ← List.append_assoc, List.map_append, List.map_cons] at nw
        exact (List.nodup_append.mp nw).2.2 k2 m k2 List.mem_cons_self rfl
      have hm : (kvs ++ more.take x).length ≤ sizeLine := by
        rw [List.length_append, List.length_take]
        omega
      refine hF x hlt _ _ hoo' k2 eso[x] (Array.getElem?_eq_getElem hlt) ik2 hhash _ hd' out hm fun h2 hd2 hs2 => ?_
      have no : ¬ ((kvs ++ more.take x).any fun kv => decide (kv.1 = k2)) = true := fun z => by
        obtain ⟨kv, h1, h3⟩ := List.any_eq_true.mp z
        exact out (List.mem_map.mpr ⟨kv, h1, of_decide_eq_true h3⟩)
      refine ⟨h2, x + 1, rfl, hrest, hlt, ?_, (hs2.2 o (Ne.symm ne)).trans hoo', hs'.trans hs2⟩
      rw [stored, if_neg no, hval] at hd2
      rw [List.take_add_one, hkv, ← List.append_assoc]
      exact hd2
    · rintro b s' ⟨h', i, rfl, hr, hi, hd', hoo', hs'⟩
      have hin : i = eso.size := by
        rcases Nat.lt_or_ge i eso.size with h | h
        · have e0 : eso.size - i = (eso.size - (i + 1)) + 1 := by omega
          rw [e0, List.range'_succ] at hr
          cases hr
        · exact Nat.le_antisymm hi h
      refine wpAny_pure (q h' ?_ ⟨oo, eso, epo, hoo', hco, hdo, hko, hpo, hno⟩ hs')
      rw [hin, ← len, List.take_length] at hd'
      exact hd'
  have loop : wpAny (model prog w) A (do
      let l ← dictEntries o
      let epoch ← dictEpoch o
      forIn (List.range l.size) PUnit.unit fun i (_ : PUnit) => (do
          let l2 ← dictEntries o
          match l2[i]? with
            | some e => do
              holding [e.key, e.val] (do
                let f ← dictFind d e.key e.hash
                if f.isSome = true then do
                    rule "dict.merge.duplicate-key"
                    let x ← newExc (Value.type "KeyError") [e.key]
                    let _ ← (raiseNew x : Sem PUnit)
                    dictPut d e.hash e.key e.val
                  else dictPut d e.hash e.key e.val)
              let ep2 ← dictEpoch o
              if (ep2 != epoch) = true then do
                  (unsupported "dict.changed-during-merge" : Sem PUnit)
                  pure (ForInStep.yield PUnit.unit)
                else pure (ForInStep.yield PUnit.unit)
            | _ => do
              (unsupported "dict.changed-during-merge" : Sem PUnit)
              pure (ForInStep.yield PUnit.unit) : Sem (ForInStep PUnit))
      pure ()) Q E s := by
    refine wpAny_bind (wpAny_dictEntries hoo hdo (wpAny_bind (wpAny_dictEpoch hoo hdo (turns _ ?_))))
    intro i hi s' R hoo' kk e he ik hh acc hacc out hz2 k
    refine wpAny_bind (wpAny_dictEntries hoo' hdo ?_)
    rw [he]
    dsimp only
    obtain ⟨oa, ea, pa, ha, ca, da, ka, ppa, na⟩ := id hacc
    refine wpAny_bind (wpAny_holding (wpAny_bind ?_))
    rw [hh]
    refine wpAny_dictFind_of ik ha da ka ?_
    have none_ : (ea.findIdx? fun e => knd.is kk e.key) = none := by
      have z : (ea.findIdx? fun e => knd.is kk e.key) = acc.findIdx? fun kv => decide (kv.1 = kk) := by
        rw [← ppa.findIdx kk]
        obtain ⟨l⟩ := ea
        simp
      rw [z, List.findIdx?_eq_none_iff]
      intro kv hkv
      exact decide_eq_false fun e => out (List.mem_map.mpr ⟨kv, hkv, e⟩)
    rw [none_]
    rw [if_neg (by simp)]
    refine put_one ik hacc (fun h2 hd2 hs2 => ?_) hz2
    have hoo2 : h2.get? o = some oo := (hs2.2 o (Ne.symm ne)).trans hoo'
    refine wpAny_bind (wpAny_dictEpoch hoo2 hdo ?_)
    rw [if_neg (by simp)]
    exact wpAny_pure (k h2 hd2 hs2)
  split
  · refine wpAny_bind (wpAny_dictEntries hoo hdo ?_)
    refine wpAny_bind (wpAny_of_eq (a := PUnit.unit) ?_ loop)
    rw [← Array.forIn_toList]
    refine forIn_yield_id _ fun e he c => ?_
    obtain ⟨k, ik, _⟩ := hko e (Array.mem_toList_iff.mp he)
    generalize e.key = v at ik ⊢
    cases v with
    | ref a => exact absurd ik no_ref
    | _ => rfl
  · exact loop
end
end Mm

set_option Elab.async false
set_option linter.all false
set_option maxRecDepth 100000
set_option maxHeartbeats 4000000
namespace Du
open PySem PySem.Spec PyProof.Rows L2
/-! d.update(e), both dicts -/
def rUpdate : V → List V → Hp → VK → Prop := fun x vs H Q => ∃ (a b : Addr) (kvs more : List (Key × V)), x = .ref a ∧ vs = [.ref b] ∧ a ≠ b ∧ H a = some (.dK kvs) ∧ Rd H b (.dK more) ∧ kvs.length + more.length ≤ sizeLine ∧ Q .non (upd H a (.dK (mergeK kvs more)))
theorem mt_update {X : Cx} : MtM X "dict.update" rUpdate := by
  intro pins s σ H x vs v us Q I rx rv h
  obtain ⟨a, b, kvs, more, rfl, rfl, ne, ha, hb, hz, q⟩ := h
  cases rx
  obtain ⟨u, rfl, ru⟩ := rv.one
  cases ru
  obtain ⟨z, hd, vs1, rel, dd⟩ := dk_of I.hok ha
  obtain ⟨z2, hd2, vs2, rel2, dd2⟩ := dk_rd I.hok hb
  refine call_meetsIn PySem.F.slot_dict_update dd.typeIs PySem.F.entry_dict_update (PySem.F.args_dict_update_2 _ _) (meets_dict_update (mixKind X.prog X.w) a b ne hd2) ⟨vs1, vs2, dd, dd2, (by rw [← rel.length, ← rel2.length]; exact hz), fun h' dd' _ hs => ?_⟩
  have hl : (mergeK kvs more).length ≤ sizeLine := Nat.le_trans (length_mergeK more kvs) hz
  have he : ∃ q, h'.get? a = some q := let ⟨q, _, _, hq, _⟩ := dd'; ⟨q, hq⟩
  exact ⟨.non, _, d_write I (by rw [ha]; exact True.intro) hs he (dk_new hl hd (KV.merge rel2 rel) dd'), rfl, q⟩
end Du
#check @PySem.F.type_dict_update

set_option Elab.async false
set_option linter.all false
set_option maxRecDepth 100000
set_option maxHeartbeats 2000000
namespace Mm
open PySem PySem.Spec PyProof.Rows L2
section
variable {X : Cx} {pins : List (Addr × Obj)} {σ : L2.St} {H : Hp} {s : Shared} {A : Around} {E : Value → Shared → Prop} {a b : Addr} {kvs more : List (Key × V)}
theorem merge_inv {Q : Unit → Shared → Prop} (I : Inv X pins σ H s) (ne : a ≠ b) (ha : H a = some (.dK kvs)) (hb : Rd H b (.dK more)) (hz : kvs.length + more.length ≤ sizeLine)
    (q : ∀ s', Inv X pins σ (upd H a (.dK (mergeK kvs more))) s' → Q () s') : wpAny (model X.prog X.w) A (mergeMapping a (.ref b) false) Q E s := by
  obtain ⟨z, hd, vs1, rel, dd⟩ := dk_of I.hok ha
  obtain ⟨z2, hd2, vs2, rel2, dd2⟩ := dk_rd I.hok hb
  refine merge_one ne hd2 dd dd2 (fun h' dd' _ hs => q _ ?_) (by rw [← rel.length, ← rel2.length]; exact hz)
  have hl : (mergeK kvs more).length ≤ sizeLine := Nat.le_trans (length_mergeK more kvs) hz
  have he : ∃ q, h'.get? a = some q := let ⟨q, _, _, hq, _⟩ := dd'; ⟨q, hq⟩
  exact d_write I (by rw [ha]; exact True.intro) hs he (dk_new hl hd (KV.merge rel2 rel) dd')
/-- {**e1, **e2} -/
def tTwo (t1 t2 : TE) : TE := fun σ H Q => ∀ d, H d = none → t1 σ (upd H d (.dK [])) fun x H1 => ∃ (p : Addr) (k1 : List (Key × V)), x = .ref p ∧ d ≠ p ∧ H1 d = some (.dK []) ∧ Rd H1 p (.dK k1) ∧
  t2 σ (upd H1 d (.dK (mergeK [] k1))) fun y H2 => ∃ (r : Addr) (k2 : List (Key × V)), y = .ref r ∧ d ≠ r ∧ H2 d = some (.dK (mergeK [] k1)) ∧ Rd H2 r (.dK k2) ∧ k1.length + k2.length ≤ 1000 ∧ Q (.ref d) (upd H2 d (.dK (mergeK (mergeK [] k1) k2)))
theorem pe_two {e1 e2 : Expr} {t1 t2 : TE} {pos : Pos} (h1 : PE X e1 t1) (h2 : PE X e2 t2) (hz : (evalEachOpt [none, none] X.env).zip ((evalEach [e1, e2] X.env).map fun v => do let x ← v; standAt pos; pure x) = [(none, do let x ← eval e1 X.env; standAt pos; pure x), (none, do let x ← eval e2 X.env; standAt pos; pure x)] := by rfl) :
    PE X (.Dict [none, none] [e1, e2] pos) (tTwo t1 t2) := by
  refine ⟨fun pins s σ H Q I h => ?_⟩
  rw [arm_eval_Dict, hz]
  refine wpAny_bind (wpAny_standAt ?_)
  unfold dictDisplay
  dsimp only
  rw [List.forIn_cons]
  refine wpAny_bind (wpAny_bind ?_)
  dsimp only
  rw [if_pos (by rfl)]
  refine wpAny_bind (wpAny_pure ?_)
  refine wpAny_bind (wpAny_alloc ?_)
  have nd := I.hok.fresh (Nat.le_refl s.heap.objs.size)
  have I1 := I.laid (a := s.heap.objs.size) (o := .dK []) (h' := s.heap.push { cls := .type "dict", data := .dict #[] }) (t' := s.toks) (fun _ _ q => Heap.get?_push_of_some _ q) (Nat.le_refl _) (dk_empty s.heap I.big)
  refine wpAny_bind (wpAny_holding (wpAny_bind (thn (h1.run pins _ σ _ _ I1 (h _ nd)) fun v s1 ⟨x, H1, J1, r1, p, k1, ex, dp, hd1, hp1, q1⟩ => wpAny_bind (wpAny_standAt (wpAny_pure ?_)))))
  subst ex
  cases r1
  have small : ∀ {n m : Nat}, n + m ≤ 1000 → n ≤ sizeLine ∧ n + m ≤ sizeLine := fun {n m} h => by
    have h9 : sizeLine = 16777216 := by decide
    omega
  have q1 := q1
  refine wpAny_bind (wpAny_onRaise (wpAny_tryCatch (wpAny_onRaise (wpAny_holding (merge_inv J1 dp hd1 hp1 ?_ fun s2 J2 => wpAny_pure ?_)))))
  · have z := (rd_of J1.hok hp1 : ObjOk _ _ _ _ _ _).1
    simpa using z
  dsimp only
  rw [List.forIn_cons]
  refine wpAny_bind ?_
  dsimp only
  rw [if_pos (by rfl)]
  refine wpAny_bind (wpAny_pure ?_)
  refine wpAny_bind (wpAny_pure ?_)
  refine wpAny_bind (wpAny_holding (wpAny_bind (thn (h2.run pins _ σ _ _ J2 q1) fun v2 s3 ⟨y, H2, J3, r2, r, k2, ey, dr, hd2, hr2, hz2, q2⟩ => wpAny_bind (wpAny_standAt (wpAny_pure ?_)))))
  subst ey
  cases r2
  have hk : (mergeK [] k1).length + k2.length ≤ sizeLine := by
    have h1 := length_mergeK k1 ([] : List (Key × V))
    rw [List.length_nil] at h1
    have := (small hz2).2
    omega
  refine wpAny_bind (wpAny_onRaise (wpAny_tryCatch (wpAny_onRaise (wpAny_holding (merge_inv J3 dr hd2 hr2 hk fun s4 J4 => wpAny_pure ?_)))))
  dsimp only
  rw [List.forIn_nil]
  refine wpAny_pure ?_
  dsimp only
  rw [if_pos (by rfl)]
  refine wpAny_bind (wpAny_pure ?_)
  exact wpAny_pure ⟨.ref s.heap.objs.size, _, J4, rfl, q2⟩
end
end Mm

set_option Elab.async false
set_option linter.all false
set_option maxRecDepth 100000
set_option maxHeartbeats 2000000
namespace Mm
open PySem PySem.Spec PyProof.Rows L2
section
variable {P : Program} {w : World} {A : Around} {E : Value → Shared → Prop} {s : Shared}
/-- the keywords that a dict of texts gives -/
theorem kw_in {f : Value} {d : Addr} {o : Obj} {es : Array DictEntry} {ep : Nat} {ks : List Str} {us : List Value} {Q : List (Str × Value) → Shared → Prop} (ho : s.heap.get? d = some o) (hd : o.data = .dict es ep)
    (pr : Pairs (mixKind P w) es.toList ((ks.map Sum.inr).zip us)) (l : ks.length = us.length) (q : Q (ks.zip us) s) : wpAny (model P w) A (keywordsIn f d) Q E s := by
  unfold keywordsIn
  refine wpAny_bind (wpAny_dictEntries ho hd (wpAny_bind ?_))
  rw [← Array.forIn_toList]
  refine wpAny_forIn_list _ (fun rest kw s' => s' = s ∧ ∃ (k1 k2 : List Str) (u1 u2 : List Value), ks = k1 ++ k2 ∧ us = u1 ++ u2 ∧ k1.length = u1.length ∧ k2.length = u2.length ∧ Pairs (mixKind P w) rest ((k2.map Sum.inr).zip u2) ∧ kw = k1.zip u1) _ ?_ ?_ _ _ ⟨rfl, [], ks, [], us, rfl, rfl, rfl, l, pr, rfl⟩
  · rintro x rest kw s' ⟨rfl, k1, k2, u1, u2, rfl, rfl, l1, l2, pr2, rfl⟩
    match k2, u2, l2, pr2 with
    | [], [], _, pr2 => cases pr2
    | z :: k3, u :: u3, l2, pr2 =>
      cases pr2 with
      | cons h1 h2 h3 =>
        obtain ⟨hs, key, val⟩ := x
        rcases keyIs_shape (show keyIs (Sum.inr z) key = true from h1) with ⟨i, t, e1, e2⟩ | ⟨y, t, e1, e2⟩
        · cases e1
        · cases e1
          subst e2
          refine wpAny_pure ⟨rfl, k1 ++ [z], k3, u1 ++ [u], u3, by rw [List.append_assoc]; rfl, by rw [List.append_assoc]; rfl, by rw [List.length_append, List.length_append, l1]; rfl, by simpa using l2, h3, ?_⟩
          rw [List.zip_append l1]
          have e3 : val = u := h2
          rw [e3]
          rfl
  · rintro kw s' ⟨rfl, k1, k2, u1, u2, rfl, rfl, l1, l2, pr2, rfl⟩
    match k2, u2, l2, pr2 with
    | [], [], _, _ =>
      refine wpAny_pure ?_
      simpa using q
    | z :: k3, u :: u3, l2, pr2 => cases pr2
end
section
variable {X : Cx} {pins : List (Addr × Obj)} {σ : L2.St} {H : Hp} {s : Shared}
/-- f(**e): the dict of its keywords -/
theorem merged_kw {f : Value} {x : Sem Value} {Q : Addr → Shared → Prop} (h : wpAny (model X.prog X.w) X.A x (fun u s1 => ∃ b, u = .ref b ∧ wpAny (model X.prog X.w) X.A (mergeMapping s.heap.objs.size (.ref b) true) (fun _ s2 => Q s.heap.objs.size s2) (fun _ _ => False) s1) X.xe { s with heap := s.heap.push { cls := .type "dict", data := .dict #[] } }) :
    wpAny (model X.prog X.w) X.A (mergedKeywords f [(none, x)]) Q X.xe s := by
  unfold mergedKeywords
  refine wpAny_bind (wpAny_alloc (wpAny_bind (wpAny_holding ?_)))
  dsimp only
  rw [List.forIn_cons]
  refine wpAny_bind (wpAny_bind ?_)
  dsimp only
  rw [if_pos (by rfl)]
  refine wpAny_bind (wpAny_pure (wpAny_bind (wpAny_mono h (fun u s1 ⟨b, eu, hm⟩ => ?_) fun _ _ z => z)))
  subst eu
  refine wpAny_bind (wpAny_onRaise (wpAny_holding (wpAny_tryCatch (wpAny_onRaise (wpAny_mono hm (fun _ s2 q => wpAny_pure ?_) fun _ _ z => z.elim)))))
  dsimp only
  rw [List.forIn_nil]
  refine wpAny_pure ?_
  rw [if_pos (by rfl)]
  exact wpAny_pure (wpAny_pure q)
/-- the arguments of f(**e) -/
theorem args_kw {f : Value} {x : Sem Value} {Q : Args → Shared → Prop} (h : wpAny (model X.prog X.w) X.A (mergedKeywords f [(none, x)]) (fun d s1 => wpAny (model X.prog X.w) X.A (keywordsIn f d) (fun kw s2 => Q ⟨[], kw⟩ s2) X.xe s1) X.xe s) :
    wpAny (model X.prog X.w) X.A (evalArgs f true [] [(none, x)]) Q X.xe s := by
  unfold evalArgs
  dsimp only
  refine wpAny_bind (Calls.spliced_nil (wpAny_bind (wpAny_pure (wpAny_holding ?_))))
  rw [if_neg (by simp)]
  refine wpAny_bind (wpAny_mono h (fun d s1 h1 => ?_) fun _ _ z => z)
  dsimp only
  refine wpAny_bind (wpAny_pure (wpAny_bind (wpAny_holding (wpAny_mono h1 (fun kw s2 q => wpAny_pure q) fun _ _ z => z))))
/-- the call f(**e) -/
theorem call_kw {f : Value} {x : Sem Value} {pos : Pos} {Q : Value → Shared → Prop} (kf : PySem.W.keepIn X.K f = true) (h : wpAny (model X.prog X.w) X.A (evalArgs f true [] [(none, x)]) (fun a s1 => X.K.In s1.heap ∧ wpAny (model X.prog X.w) X.A (call f a.pos a.kw) Q X.xe s1) X.xe s) :
    wpAny (model X.prog X.w) X.A (callWith pos f [] [] [(none, x)]) Q X.xe s := by
  unfold callWith
  refine wpAny_bind (wpAny_holding (wpAny_mono h (fun a s1 h1 => wpAny_bind (wpAny_standAt ?_)) fun _ _ z => z))
  obtain ⟨k, hk, L⟩ := PySem.W.keeps_K kf _ h1.1
  refine wpAny_bind (L.here ?_)
  have fin : ∀ {t : Sem Value}, wpAny (model X.prog X.w) X.A t Q X.xe s1 → wpAny (model X.prog X.w) X.A (t >>= fun r => holding [r] point >>= fun _ => pure r) Q X.xe s1 :=
    fun ht => wpAny_bind (wpAny_mono ht (fun r s2 q => wpAny_bind (wpAny_holding (wpAny_point (wpAny_pure q)))) fun _ _ z => z)
  have mk : ∀ c : Value, wpAny (model X.prog X.w) X.A (callMarked c f ([] ++ a.pos) a.kw) Q X.xe s1 := fun c => by
    unfold callMarked
    exact Calls.wpAny_keep h1.2
  rcases hk with rfl | rfl | rfl
  · exact fin (mk _)
  · exact fin (wpAny_operating h1.2)
  · exact fin (wpAny_operating h1.2)
/-- C(**e), e a dict of just these texts in this order -/
def tMakeD (C : Addr) (sp : Sp) (gV : List Str → List V → List V → List V) (E : XK) (L : List (List Str)) (te : TE) : TE := fun σ H Q => ∀ d, H d = none → te σ (upd H d (.dK [])) fun x H1 => ∃ (ks : List Str) (p : Addr) (zs : List V), ks ∈ L ∧ x = .ref p ∧ d ≠ p ∧ H1 d = some (.dK []) ∧ Rd H1 p (.dK ((ks.map Sum.inr).zip zs)) ∧ zs.length = ks.length ∧
  ∀ y dy, upd H1 d (.dK ((ks.map Sum.inr).zip zs)) y = none → upd H1 d (.dK ((ks.map Sum.inr).zip zs)) dy = none → dy ≠ y → sp (gV ks [.ref y] zs) (upd (upd (upd H1 d (.dK ((ks.map Sum.inr).zip zs))) dy (.own y)) y (.ins C dy [])) (fun v H3 => v = .non ∧ Q (.ref y) H3) E
variable {CX : CXT} {k : Nat} {f C : Addr} {fd : FuncData} {ps : List Str} {L : List (List Str)} {sp : Sp} {E : XK} {x : Str} {p pos kp : Pos} {e : Expr} {te : TE} {gV : List Str → List V → List V → List V}
theorem kv_zip {ks : List Str} : ∀ {zs : List V} {vs : List (Key × Value)}, zs.length = ks.length → KV ((ks.map Sum.inr).zip zs) vs → ∃ us, vs = (ks.map Sum.inr).zip us ∧ Vals zs us := by
  induction ks with
  | nil =>
    intro zs vs l h
    match zs, l with
    | [], _ =>
      cases h
      exact ⟨[], rfl, .nil⟩
  | cons z ks ih =>
    intro zs vs l h
    match zs, l with
    | v :: zs, l =>
      cases h with
      | cons h1 h2 =>
        obtain ⟨us, e, r⟩ := ih (by simpa using l) h2
        rename_i b _
        obtain ⟨k2, u⟩ := b
        obtain ⟨e1, r1⟩ := h1
        have e1 : (Sum.inr z : Key) = k2 := e1
        exact ⟨u :: us, by rw [e, ← e1]; rfl, .cons r1 r⟩
theorem pe_makeD (M : Mk X.K C f) (F : FnOk X.prog X.w X.K X.mg X.base CX k f fd ps sp) (hr : Room (k + 1) X.A) (hg : Gl X x) (hm : X.mg x = some (.ref C)) (hb : ∀ ks ∈ L, ks.Nodup ∧ ks.length ≤ 1000 ∧ ∃ g : List Value → List Value → List Value, KBn X.K fd ps 1 ks g (gV ks)) (hx : Passes CX X E) (he : PE X e te)
    (hdb : (x == ("__debug__" : Str)) = false := by decide) (hkw : backToKw pos (keywordEach [⟨none, e, kp⟩] X.env) = [(none, do let v ← eval e X.env; standAt pos; pure v)] := by rfl) : PE X (.Call (.Name x p) [] [⟨none, e, kp⟩] pos) (tMakeD C sp gV E L te) := by
  refine ⟨fun pins s σ H Q I h => ?_⟩
  refine wpAny_Call_Name_kw (ld_glob I hg hm ?_ hdb)
  rw [hkw]
  show wpAny _ _ (callWith pos (.ref C) [] [] _) _ _ _
  have nd := I.hok.fresh (Nat.le_refl s.heap.objs.size)
  have I1 := I.laid (a := s.heap.objs.size) (o := .dK []) (h' := s.heap.push { cls := .type "dict", data := .dict #[] }) (t' := s.toks) (fun _ _ q => Heap.get?_push_of_some _ q) (Nat.le_refl _) (dk_empty s.heap I.big)
  refine call_kw M.kp (args_kw (merged_kw (wpAny_bind (thn (he.run pins _ σ _ _ I1 (h _ nd)) fun v s1 ⟨y, H1, J1, r1, ks, p, zs, hks, ey, dp, hd1, hp1, lz, q1⟩ => wpAny_bind (wpAny_standAt (wpAny_pure ⟨p, ?_, ?_⟩))))))
  · subst ey
    cases r1
    rfl
  obtain ⟨nks, few, g, hb⟩ := hb ks hks
  obtain ⟨z1, n1, v1, rel1, dd1⟩ := dk_of J1.hok hd1
  obtain ⟨z2, n2, v2, rel2, dd2⟩ := dk_rd J1.hok hp1
  cases rel1
  obtain ⟨us, rfl, rv⟩ := kv_zip lz rel2
  have ku : ks.length = us.length := lz.symm.trans rv.length
  have keys : ((ks.map (Sum.inr : Str → Key)).zip us).map (·.1) = ks.map Sum.inr := List.map_fst_zip (by rw [List.length_map]; omega)
  refine merge_new dp n2 dd1 dd2 ?_ (fun h' dd' _ hs => ?_) ?_
  · rw [List.nil_append, keys]
    unfold List.Nodup
    rw [List.pairwise_map]
    exact nks.imp fun h e => h (Sum.inr.inj e)
  · rw [List.nil_append] at dd'
    have hex : ∃ q, h'.get? s.heap.objs.size = some q := let ⟨q, _, _, hq, _⟩ := dd'; ⟨q, hq⟩
    have J2 := d_write (t' := s1.toks) J1 (by rw [hd1]; exact True.intro) hs hex (dk_new z2 n1 rel2 dd')
    obtain ⟨o, es, ep, ho, _, hd, _, hp, _⟩ := id dd'
    exact kw_in ho hd hp ku ⟨J2.kIn, run_makeK M F hr hb hx J2 .nil rv rfl lz q1⟩
  · rw [List.length_nil, List.length_zip, List.length_map]
    have h9 : sizeLine = 16777216 := by decide
    omega
end
end Mm

set_option Elab.async false
set_option linter.all false
set_option maxRecDepth 100000
set_option maxHeartbeats 2000000
namespace Kw
open PySem PySem.Spec PyProof.Rows L2 StX
/-! a def with a parameter **d, called with keywords -/
section
variable {P : Program} {w : World} {A : Around} {E : Value → Shared → Prop} {s : Shared}
theorem ns_put {d : Addr} {kvs : List (Key × Value)} {name : Str} {v : Value} {Q : Unit → Shared → Prop} (m : s.heap.DictOf (mixKind P w) d kvs) (hz : kvs.length ≤ 1000)
    (q : ∀ h', h'.DictOf (mixKind P w) d (stored kvs (Sum.inr name) v) → Heap.SameBut d s.heap h' → Q () { s with heap := h', toks := s.toks + 1 }) : wpAny (model P w) A (nsSet d name v) Q E s := fun Γ p _ => by
  obtain ⟨o, es, ep, ho, hc, hd, hk, hp, hn⟩ := m
  have iname : (mixKind P w).is (Sum.inr name) (.str name s.toks) = true := by
    show Value.isStrOf name (.str name s.toks) = true
    simp [Value.isStrOf]
  have same : (fun e : DictEntry => e.key.isStr name) = fun e => (mixKind P w).is (Sum.inr name) e.key := funext fun e => ((mixKind P w).strs (Sum.inr name) name s.toks e.key iname).symm
  have idx : (es.findIdx? fun e => (mixKind P w).is (Sum.inr name) e.key) = kvs.findIdx? fun kv => decide (kv.1 = Sum.inr name) := by
    rw [← hp.findIdx (Sum.inr name)]
    obtain ⟨l⟩ := es
    simp
  have noref : es.any (·.refKey) = false := by
    rw [Array.any_eq_false']
    intro e he
    obtain ⟨k, ik, _⟩ := hk e he
    have := (mixKind P w).byValue k _ ik
    obtain ⟨h1, key, v1⟩ := e
    cases key with
    | ref a => cases this
    | _ => simp [DictEntry.refKey]
  simp only [nsSet, strHash, Sem.wp_bind', Sem.wp_cmd_ask, Sem.wp_pure', Sem.wp_cmd_mkText]
  rw [Sem.wp_loadPart_of (model P w) Γ _ p { s with toks := s.toks + 1 } (o := o) _ ho]
  simp only [hd, aRefKeyMayBeTheName_eq, aRefKeyMayBeTheNameByArray, noref, Bool.and_false, Bool.false_eq_true, if_false, Sem.wp_cmd_updatePart]
  refine ⟨by rw [ho]; rfl, q _ ?_ (Heap.SameBut.update ..)⟩
  obtain ⟨c, d', dt, sl⟩ := o
  subst hd
  cases hi : es.findIdx? (·.key.isStr name) with
  | some i =>
    have hi2 : (es.findIdx? fun e => (mixKind P w).is (Sum.inr name) e.key) = some i := by rw [← same]; exact hi
    refine ⟨_, _, ep, Heap.get?_update_self _ ho (by simp only [Obj.putName_eq, Obj.putNameByArray, hi]; rfl), ?_, by simp only [Obj.putName_eq, Obj.putNameByArray, hi]; rfl, hk.modify _ _, ?_, ?_⟩
    · simp only [Obj.putName_eq, Obj.putNameByArray, hi]
      exact ⟨hc.1, hc.2.1, hc.2.2⟩
    · have there : (es.toList.findIdx? fun e => (mixKind P w).is (Sum.inr name) e.key) = some i := by
        rw [← hi2]
        obtain ⟨l⟩ := es
        simp
      have z := hp.modify hn there v
      rw [stored, if_pos (any_of_findIdx_some (idx ▸ hi2))]
      obtain ⟨l⟩ := es
      simpa using z
    · rw [stored, if_pos (any_of_findIdx_some (idx ▸ hi2)), keys_map_store]
      exact hn
  | none =>
    have hi2 : (es.findIdx? fun e => (mixKind P w).is (Sum.inr name) e.key) = none := by rw [← same]; exact hi
    have out : (Sum.inr name : Key) ∉ kvs.map (·.1) := not_mem_of_findIdx_none (idx ▸ hi2)
    have no : ¬ (kvs.any fun kv => decide (kv.1 = Sum.inr name)) = true := fun z => by
      obtain ⟨kv, h1, h2⟩ := List.any_eq_true.mp z
      exact out (List.mem_map.mpr ⟨kv, h1, of_decide_eq_true h2⟩)
    have hh : (if name.cps.isEmpty = true then 0 else reduceHash ((model P w).w.params.strHash name.cps)) = (mixKind P w).hash (Sum.inr name) := rfl
    refine ⟨_, _, ep + 1, Heap.get?_update_self _ ho (by simp only [Obj.putName_eq, Obj.putNameByArray, hi]; rfl), ?_, by simp only [Obj.putName_eq, Obj.putNameByArray, hi]; rfl, hk.push iname _, ?_, ?_⟩
    · simp only [Obj.putName_eq, Obj.putNameByArray, hi]
      exact ⟨hc.1, hc.2.1, hc.2.2⟩
    · have z := hp.append iname ((mixKind P w).hash (Sum.inr name)) v
      rw [stored, if_neg no]
      obtain ⟨l⟩ := es
      simpa using z
    · rw [stored, if_neg no, List.map_append, List.nodup_append]
      refine ⟨hn, by simp, fun x hx y hy e => ?_⟩
      rw [List.map_cons, List.map_nil, List.mem_singleton] at hy
      exact out ((show x = Sum.inr name from e.trans hy) ▸ hx)
end
theorem kv_of {ks : List Str} : ∀ {zs : List V} {us : List Value}, Vals zs us → KV ((ks.map (Sum.inr : Str → Key)).zip zs) ((ks.map Sum.inr).zip us) := by
  induction ks with
  | nil => intro zs us _; exact .nil
  | cons k ks ih =>
    intro zs us r
    cases r with
    | nil => exact .nil
    | cons r1 r2 => exact .cons ⟨rfl, r1⟩ (ih r2)
section
variable {CX : CXT} {P : Program} {w : World} {K : PySem.W.Frag} {mg : Str → Option Value} {base : Heap} {k : Nat} {f : Addr} {name qual : Str} {params : Arguments} {body : List Stmt} {scope : Scope} {dV kV doc pm cdv ct oc : Value} {an od : Option Addr} {osl : Array (Option Value)} {N ps ks : List Str} {sp : Sp}
/-- a def's promise, told with the keywords ks in a new dict behind the rest -/
def FnKw (P : Program) (w : World) (K : PySem.W.Frag) (mg : Str → Option Value) (base : Heap) (CX : CXT) (k : Nat) (f : Addr) (ks : List Str) (sp : Sp) : Prop :=
  ∀ (A : Around) (outer : List Env) (s : Shared) (H : Hp) (us : List Value) (vs : List V) (ws : List Value) (zs : List V) (Q : VK) (E : XK), Room k A → Env0 P w K mg base A outer s H → Vals vs us → Vals zs ws → zs.length = ks.length →
    (∀ d, H d = none → sp (vs ++ [.ref d]) (upd H d (.dK ((ks.map Sum.inr).zip zs))) Q E) → codeAny (model P w) A (.call (.ref f) ⟨us, ks.zip ws⟩) (CR CX outer P w H s Q E) s
/-- the objects that stood ahead of a def's body, and one more -/
theorem env_more {A : Around} {outer : List Env} {s : Shared} {H : Hp} {u : HO} {h' : Heap} {t' : Nat} (e0 : Env0 P w K mg base A outer s H) (kp : ∀ b x, s.heap.get? b = some x → h'.get? b = some x) (up : s.heap.objs.size ≤ h'.objs.size)
    (new : ObjOk P w (upd H s.heap.objs.size u) h' s.heap.objs.size u) : Env0 P w K mg base A outer { s with heap := h', toks := t' } (upd H s.heap.objs.size u) := by
  refine ⟨e0.frames, e0.mod, fun b x e => ⟨kp b x (e0.bs b x e).1, ?_⟩, Nat.le_trans e0.bsz up, Heap.FunFrames.of_keeps (fun b x e _ => ⟨x, kp b x e, rfl⟩) e0.funs, fun b hb => ?_, e0.hok.laid kp (Nat.le_refl _) new, e0.bare⟩
  · have lt := Heap.lt_size (e0.bs b x e).1
    rw [upd_ne (Nat.ne_of_lt lt)]
    exact (e0.bs b x e).2
  · obtain ⟨_, x, hx, _⟩ := e0.funs.mem hb
    rw [upd_ne (Nat.ne_of_lt (Heap.lt_size hx))]
    exact e0.frf b hb
/-- def f(a, .., **d), called with the keywords ks -/
theorem fn_kw {pd : Str} (lk : K.lookup f = some ⟨oc, od, .func (PySem.W.fnOf name qual params body scope dV kV doc pm an cdv ct), osl⟩) (hcd : PySem.W.codeIn K cdv qual = true) (S : FnScope N (ps ++ [pd]) scope) (hCX : CXUp CX) (nks : ks.Nodup) (few : ks.length ≤ 100)
    (len : ∀ vs H Q E, sp vs H Q E → vs.length = (ps ++ [pd]).length)
    (hb : ∀ us ws : List Value, us.length = ps.length → ws.length = ks.length → bindArgs (PySem.W.fnOf name qual params body scope dV kV doc pm an cdv ct) ⟨us, ks.zip ws⟩ =
      ((alloc ({ cls := .type "dict", data := .dict #[] } : Obj) : Sem Addr) >>= fun d => (forIn (ks.zip ws) PUnit.unit fun kv (_ : PUnit) => (do nsSet d kv.1 kv.2; pure (ForInStep.yield PUnit.unit) : Sem (ForInStep PUnit))) >>= fun _ => pure (ps.zip us ++ [(pd, Value.ref d)])))
    (hbody : ∀ (A : Around) (outer : List Env) (s : Shared) (H : Hp) (vs : List V) (Q : VK) (E : XK), Room k (A.deeper (envOfC qual scope s.heap.objs.size f cdv)) → sp vs H Q E →
      ∃ t, PSs (cxOf CX P w K mg base N qual scope f cdv A outer s H E) body t ∧ t { nx := fun _ H' => Q .non H', rt := Q } (start N vs) H) : FnKw P w K mg base CX (k + 1) f ks sp := by
  intro A outer s H us vs ws zs Q E hr e0 r rz lz hsp
  have hn : H s.heap.objs.size = Option.none := e0.hok.fresh (Nat.le_refl _)
  have lw : ws.length = ks.length := rz.length.symm.trans lz
  have lv : us.length = ps.length := by
    have z := len _ _ _ _ (hsp _ hn)
    rw [List.length_append, List.length_append] at z
    rw [← r.length]
    exact Nat.add_right_cancel z
  refine run_bnd lk hcd S hr e0 (G := fun xs H2 => ∃ d, H d = Option.none ∧ xs = vs ++ [V.ref d] ∧ H2 = upd H d (.dK ((ks.map Sum.inr).zip zs))) (fun A' Ex Q' h => ?_) fun s2 H2 xs ⟨d, hd, ex, eH⟩ hr' => ?_
  · rw [hb us ws lv lw]
    refine wpAny_bind (wpAny_alloc (wpAny_bind ?_))
    have here : (s.heap.push ({ cls := .type "dict", data := .dict #[] } : Obj)).DictOf (mixKind P w) s.heap.objs.size [] := ⟨_, _, _, Heap.get?_push_size _ rfl, ⟨rfl, rfl, rfl⟩, rfl, fun e he => by simp at he, .nil, List.nodup_nil⟩
    refine wpAny_forIn_list _ (fun rest _ s' => ∃ (h' : Heap) (t' : Nat) (k1 k2 : List Str) (u1 u2 : List Value), s' = { s with heap := h', toks := t' } ∧ ks = k1 ++ k2 ∧ ws = u1 ++ u2 ∧ k1.length = u1.length ∧ k2.length = u2.length ∧ rest = k2.zip u2 ∧ h'.DictOf (mixKind P w) s.heap.objs.size ((k1.map Sum.inr).zip u1) ∧ Heap.SameBut s.heap.objs.size (s.heap.push ({ cls := .type "dict", data := .dict #[] } : Obj)) h') _ ?_ ?_ _ _
      ⟨_, s.toks, [], ks, [], ws, rfl, rfl, rfl, rfl, lw.symm, rfl, here, Heap.SameBut.refl _ _⟩
    · rintro kv rest _ s' ⟨h', t', k1, k2, u1, u2, rfl, rfl, rfl, l1, l2, er, dd, sb⟩
      match k2, u2, l2, er with
      | [], [], _, er => cases er
      | z :: k3, u :: u3, l2, er =>
        cases er
        have out : (Sum.inr z : Key) ∉ ((k1.map (Sum.inr : Str → Key)).zip u1).map (·.1) := fun m => by
          rw [List.map_fst_zip (by rw [List.length_map]; omega)] at m
          obtain ⟨y, hy, e⟩ := List.mem_map.mp m
          cases e
          exact (List.nodup_append.mp nks).2.2 z hy z List.mem_cons_self rfl
        have no : ¬ (((k1.map (Sum.inr : Str → Key)).zip u1).any fun kv => decide (kv.1 = Sum.inr z)) = true := fun q => by
          obtain ⟨kv, h1, h3⟩ := List.any_eq_true.mp q
          exact out (List.mem_map.mpr ⟨kv, h1, of_decide_eq_true h3⟩)
        refine wpAny_bind (ns_put dd ?_ fun h2 dd2 sb2 => wpAny_pure ⟨h2, _, k1 ++ [z], k3, u1 ++ [u], u3, rfl, by rw [List.append_assoc]; rfl, by rw [List.append_assoc]; rfl, by rw [List.length_append, List.length_append, l1]; rfl, by simpa using l2, rfl, ?_, sb.trans sb2⟩)
        · rw [List.length_zip, List.length_map]
          rw [List.length_append] at few
          omega
        · rw [stored, if_neg no] at dd2
          rw [List.map_append, List.zip_append (by rw [List.length_map]; exact l1)]
          exact dd2
    · rintro _ s' ⟨h', t', k1, k2, u1, u2, rfl, rfl, rfl, l1, l2, er, dd, sb⟩
      match k2, u2, l2, er with
      | z :: k3, u :: u3, l2, er => cases er
      | [], [], _, _ =>
        rw [List.append_nil] at *
        have kp : ∀ b x, s.heap.get? b = some x → h'.get? b = some x := fun b x e => by
          have ne : b ≠ s.heap.objs.size := Nat.ne_of_lt (Heap.lt_size e)
          exact (sb.2 b ne).trans (Heap.get?_push_of_some _ e)
        have new : ObjOk P w (upd H s.heap.objs.size (.dK ((k1.map Sum.inr).zip zs))) h' s.heap.objs.size (.dK ((k1.map Sum.inr).zip zs)) := dk_new (by
          rw [List.length_zip, List.length_map]
          have h9 : sizeLine = 16777216 := by decide
          omega) (beq_false_of_ne (Nat.ne_of_gt (env0_big e0))) (kv_of rz) dd
        have up : s.heap.objs.size ≤ h'.objs.size := by
          obtain ⟨o, es, ep, ho, _⟩ := dd
          exact Nat.le_of_lt (Heap.lt_size ho)
        have un : Un (frs outer) [] H (upd H s.heap.objs.size (.dK ((k1.map Sum.inr).zip zs))) s.heap h' := Un.laid kp (Nat.le_refl _) hn
        have z := h _ _ (vs ++ [V.ref s.heap.objs.size]) (us ++ [Value.ref s.heap.objs.size]) (env_more (t' := t') e0 kp up new) un rfl (fun e s' => hCX outer s H _ _ E e s' un kp rfl) (r.append (.cons rfl .nil)) (by rw [List.length_append, List.length_append, r.length, lv] <;> rfl) ⟨_, hn, rfl, rfl⟩
        rw [List.zip_append lv.symm] at z
        exact wpAny_pure z
  · subst ex eH
    exact hbody A outer s2 _ _ Q E hr' (hsp d hd)
end
section
variable {X : Cx} {CX : CXT} {k : Nat} {C f : Addr} {ks : List PySem.Str} {sp : Sp} {E : XK} {o : Expr} {kws : List Keyword} {m : PySem.Str} {pos apos : Pos} {ta : TE} {tk : TA} {pl : Sem Bool}
/-- o.m(k = v, ..), the keywords into the def's **d -/
def tMethKw (C : Addr) (m : PySem.Str) (ks : List PySem.Str) (sp : Sp) (E : XK) (ta : TE) (tk : TA) : TE := fun σ H Q => ta σ H fun x G => ∃ (a dx : Addr) (fs : List (PySem.Str × V)), x = .ref a ∧ G a = some (.ins C dx fs) ∧ fs.lookup m = none ∧ tk σ G fun zs G2 => zs.length = ks.length ∧ ∀ d, G2 d = none → sp [.ref a, .ref d] (upd G2 d (.dK ((ks.map Sum.inr).zip zs))) Q E
theorem pe_methKw (he : PE X o ta) (c : Cls X.K C) (hm : Meth X.K C m f) (F : FnKw X.prog X.w X.K X.mg X.base CX k f ks sp) (hr : Room k X.A) (hx : Passes CX X E) (hkw : PK X kws tk)
    (hall : (backToKw pos (keywordEach kws X.env)).all (·.1.isSome) = true := by rfl) (hks : (backToKw pos (keywordEach kws X.env)).filterMap (·.1) = ks := by rfl)
    (hpl : ((backTo pos (starEach [] X.env)).any (·.1) || (backToKw pos (keywordEach kws X.env)).any (·.1.isNone)) = false := by rfl)
    (ht : eval (.Call (.Attribute o m apos) [] kws pos) X.env = (do
      let ov ← eval o X.env
      standAt apos.atName
      let (f, first) ← holding [ov] (getMethod ov m pl)
      callWith pos f first (backTo pos (starEach [] X.env)) (backToKw pos (keywordEach kws X.env))) := by rfl) : PE X (.Call (.Attribute o m apos) [] kws pos) (tMethKw C m ks sp E ta tk) := ⟨fun pins s σ H Q I h => by
  refine PySem.W.methodCall_KW (pl := pl) (thn (he.run pins s σ H _ I h) fun u s1 ⟨x, G, I1, rx, a, dx, fs, ex, ea, l, q⟩ => ?_) ht
  subst ex
  cases rx
  refine getmeth_ok I1 ea c hm l ?_
  refine PySem.W.callWith_KW0 (first := [.ref a]) (h₀ := X.base) I1.ok.mod.kin hm.kp hall (thn (hkw.run pos pins s1 σ G _ I1 q) fun ws s2 ⟨zs, G2, I2, rz, l2, q2⟩ => ⟨I2.kIn, ?_⟩) hpl
  rw [hks]
  refine wpAny_call (codeAny_mono (F X.A X.stack s2 G2 [.ref a] [.ref a] ws zs Q E hr I2.env0 (.cons (show RelV (.ref a) (Value.ref a) from rfl) .nil) rz l2 q2) fun r s' back => ?_)
  match r, back with
  | .error e, back => exact hx pins σ G2 s2 e s' I2 back
  | .ok (.ret u), back => exact I2.after back
  | .ok .next, back => exact back.elim
  | .ok .brk, back => exact back.elim
  | .ok .cont, back => exact back.elim⟩
end
end Kw

set_option Elab.async false
set_option linter.all false
set_option maxRecDepth 100000
set_option maxHeartbeats 2000000
/-! C(e, .., k = v, ..), the keywords into __init__'s **d -/
namespace Kw
open PySem PySem.Spec PyProof.Rows L2
section
variable {X : Cx} {CX : CXT} {k n : Nat} {f C : Addr} {ps ks : List PySem.Str} {sp : Sp} {E : XK} {x : PySem.Str} {p pos : Pos} {e : Expr} {es : List Expr} {kws : List Keyword} {t tk : TA}
def tMakeKw (C : Addr) (n : Nat) (ks : List PySem.Str) (sp : Sp) (E : XK) (t tk : TA) : TE := fun σ H Q => t σ H fun vs H1 => tk σ H1 fun zs H2 => vs.length = n ∧ zs.length = ks.length ∧ ∀ x dx, H2 x = none → H2 dx = none → dx ≠ x →
  ∀ d, upd (upd H2 dx (.own x)) x (.ins C dx []) d = none → sp ((.ref x :: vs) ++ [.ref d]) (upd (upd (upd H2 dx (.own x)) x (.ins C dx [])) d (.dK ((ks.map Sum.inr).zip zs))) (fun v H3 => v = .non ∧ Q (.ref x) H3) E
theorem run_makeKw {pins : List (Addr × Obj)} {σ : L2.St} {H : Hp} {s : Shared} {Q : VK} {us ws : List Value} {vs zs : List V} (M : Mk X.K C f) (F : FnKw X.prog X.w X.K X.mg X.base CX k f ks sp) (hr : Room (k + 1) X.A) (hx : Passes CX X E)
    (I : Inv X pins σ H s) (r : Vals vs us) (rz : Vals zs ws) (l2 : zs.length = ks.length)
    (h : ∀ x dx, H x = none → H dx = none → dx ≠ x → ∀ d, upd (upd H dx (.own x)) x (.ins C dx []) d = none → sp ((.ref x :: vs) ++ [.ref d]) (upd (upd (upd H dx (.own x)) x (.ins C dx [])) d (.dK ((ks.map Sum.inr).zip zs))) (fun v H2 => v = .non ∧ Q (.ref x) H2) E) :
    wpAny (model X.prog X.w) X.A (call (.ref C) us (ks.zip ws)) (EP X pins σ Q) X.xe s := by
  have hq := h (s.heap.objs.size + 1) s.heap.objs.size (I.hok.fresh (Nat.le_succ _)) (I.hok.fresh (Nat.le_refl _)) (Nat.ne_of_lt (Nat.lt_succ_self _))
  have I2 := Inv.made (C := C) I
  have r1 : Vals (V.ref (s.heap.objs.size + 1) :: vs) (Value.ref (s.heap.objs.size + 1) :: us) := .cons rfl r
  refine wpAny_call (make_map (f := f) I.kIn M.makes M.init (beq_iff_eq.mp M.fn) (codeAny_mono (F _ X.stack _ _ (Value.ref (s.heap.objs.size + 1) :: us) (V.ref (s.heap.objs.size + 1) :: vs) ws zs _ E (hr.make C us (ks.zip ws))
    (I2.env0.make C us (ks.zip ws)) r1 rz l2 hq) fun r s' hq' => ?_))
  cases r with
  | error e => exact hx pins σ _ _ e s' I2 hq'
  | ok fl =>
    cases fl with
    | ret u =>
      obtain ⟨v, H', I3, rv, ev, q3⟩ := I2.after hq'
      subst ev
      exact ⟨rv, ⟨V.ref (s.heap.objs.size + 1), H', I3, rfl, q3⟩⟩
    | next => exact False.elim hq'
    | brk => exact False.elim hq'
    | cont => exact False.elim hq'
theorem pe_makeKw (M : Mk X.K C f) (F : FnKw X.prog X.w X.K X.mg X.base CX k f ks sp) (hr : Room (k + 1) X.A) (hg : Gl X x) (hm : X.mg x = some (.ref C)) (hx : Passes CX X E) (ha : PA X (e :: es) t) (hkw : PK X kws tk)
    (hall : (backToKw pos (keywordEach kws X.env)).all (·.1.isSome) = true := by rfl) (hks : (backToKw pos (keywordEach kws X.env)).filterMap (·.1) = ks := by rfl) (hdb : (x == ("__debug__" : PySem.Str)) = false := by decide)
    (he : starEach (e :: es) X.env = (false, eval e X.env) :: starEach es X.env := by rfl) (hpl : ((backTo pos (starEach (e :: es) X.env)).any (·.1) || (backToKw pos (keywordEach kws X.env)).any (·.1.isNone)) = false := by rfl) :
    PE X (.Call (.Name x p) (e :: es) kws pos) (tMakeKw C (es.length + 1) ks sp E t tk) := by
  refine ⟨fun pins s σ H Q I h => ?_⟩
  refine wpAny_Call_Name_kw (ld_glob I hg hm ?_ hdb)
  refine PySem.W.callWith_KW (h₀ := X.base) I.ok.mod.kin M.kp hall (thn (ha.run pos pins s σ H _ I h) fun us s1 ⟨vs, H1, I1, r, q⟩ => ?_) hpl he
  refine thn (hkw.run pos pins s1 σ H1 _ I1 q) fun ws s2 ⟨zs, H2, I2, rz, l1, l2, q2⟩ => ⟨I2.kIn, ?_⟩
  rw [hks]
  exact run_makeKw M F hr hx I2 r rz l2 q2
end
end Kw

set_option Elab.async false
set_option linter.all false
set_option maxRecDepth 100000
set_option maxHeartbeats 2000000
/-! enumerate over a list or a tuple -/
namespace En
open PySem PySem.Spec PyProof.Rows L2
open AutoSeq1 (wpAny_loadPart')
theorem meets_newT (l : Addr) (items : Array Value) (n : Nat) (dct : Option Addr) (sl : Array (Option Value)) :
    Meets (Builtin.«enumerate.__new__» ⟨[.type "enumerate", .ref l], []⟩) (fun _ R s => s.heap.get? l = some { cls := .type "tuple", dict := dct, data := .seq items n, slots := sl } ∧
      R (.ok (.ret (.ref (s.heap.push { cls := .type "tuple_iterator", data := .fields #[.ref l, .int 0 0] }).objs.size)))
        { s with heap := (s.heap.push { cls := .type "tuple_iterator", data := .fields #[.ref l, .int 0 0] }).push { cls := .type "enumerate", data := .fields #[.none, .bool false, .ref s.heap.objs.size, rawInt 0, .none, .none] } }) :=
  .of_wp fun prog w A R s h => by
    obtain ⟨hp, g, d, tk, os⟩ := s; obtain ⟨hl, h⟩ := h
    have hsub := sub_enumerate
    have hL : Heap.IsTuple (Shared.heap ⟨hp, g, d, tk, os⟩) l items := ⟨_, hl, rfl, n, rfl⟩
    wp_walk using wpAny_loadPart' hl
    refine wpAny_stack_any fun st => wpAny_pure ?_
    split
    · rename_i c _ _ _ _ _
      cases (c == Value.type "enumerate")
      · wp_walk using wpAny_loadPart' hl, wpAny_pyIter_tuple hL
        exact ⟨_, rfl, h⟩
      · wp_walk using wpAny_loadPart' hl, wpAny_pyIter_tuple hL
        exact ⟨_, rfl, h⟩
    · wp_walk using wpAny_loadPart' hl, wpAny_pyIter_tuple hL
      exact ⟨_, rfl, h⟩
section
variable {prog : Program} {w : World} {A : Around} {E : Value → Shared → Prop} {s : Shared}
theorem call_enumerate_tuple {l : Addr} {items : Array Value} {Q : Value → Shared → Prop} (hL : s.heap.IsTuple l items)
    (h : ∀ h', IsEnum h' (s.heap.objs.size + 1) s.heap.objs.size 0 .none → h'.IsTupleIter s.heap.objs.size l 0 → h'.objs.size = s.heap.objs.size + 2 →
      (∀ b o, s.heap.get? b = some o → h'.get? b = some o) → Q (.ref (s.heap.objs.size + 1)) { s with heap := h' }) :
    wpAny (model prog w) A (call (.type "enumerate") [.ref l]) Q E s := by
  obtain ⟨⟨c, dct, dt, sl⟩, hl, hc, n, hd⟩ := hL
  replace hc : c = .type "tuple" := hc
  replace hd : dt = .seq items n := hd
  subst hc hd
  refine callType_new F.called_enumerate (by decide) (F.typeCall_enumerate_1 _) (F.newCall_enumerate_1 _) (fun obj => F.args_object_init_2 obj _) F.entry_enumerate_new
    (meets_newT l items n dct sl) ⟨hl, ?_⟩
  have hz : (s.heap.push { cls := .type "tuple_iterator", data := .fields #[.ref l, .int 0 0] }).objs.size = s.heap.objs.size + 1 := Heap.size_push ..
  show _ ∧ _
  rw [hz]
  have he : IsEnum ((s.heap.push { cls := .type "tuple_iterator", data := .fields #[.ref l, .int 0 0] }).push
      { cls := .type "enumerate", data := .fields #[.none, .bool false, .ref s.heap.objs.size, rawInt 0, .none, .none] }) (s.heap.objs.size + 1) s.heap.objs.size 0 .none := by
    have := Heap.get?_push_size (s.heap.push { cls := .type "tuple_iterator", data := .fields #[.ref l, .int 0 0] })
      (o := { cls := .type "enumerate", data := .fields #[.none, .bool false, .ref s.heap.objs.size, rawInt 0, .none, .none] }) rfl
    rw [hz] at this; exact this
  refine ⟨⟨_, he, rfl⟩, h _ he ⟨_, Heap.get?_push_of_some _ (Heap.get?_push_size _ rfl), rfl, rfl⟩ (by rw [Heap.size_push, hz]) fun b o x => Heap.get?_push_of_some _ (Heap.get?_push_of_some _ x)⟩
end
/-- the tuple at a, each item in a new pair -/
def ItT (K : PySem.W.Frag) (a : Addr) : It :=
  ⟨fun i H => ∃ (xs : List V) (x : V), SqT K H a xs ∧ xs[i]? = some x, fun i H v H' => ∃ T x, v = .ref T ∧ H T = none ∧ H' = upd H T (.tup [.int (i : Nat), x]) ∧ ∀ xs, SqT K H a xs → xs[i]? = some x, fun i H => ∃ xs : List V, SqT K H a xs ∧ xs.length ≤ i⟩
theorem turn_enumT {P : Program} {w : World} {K : PySem.W.Frag} {elts : List Expr} {kk : Nat} {tpos : Pos} (a e it : Addr) (hai : a ≠ it) (hae : a ≠ e) :
    Turn P w K (.Tuple elts kk tpos) (ItT K a) [e, it] e (fun i h => (∃ old, IsEnum h e it ((i : Nat) : Int) old) ∧ h.IsTupleIter it a i ∧ e ≠ it) where
  mem := by simp
  obj := fun i h st b hb => by
    obtain ⟨⟨old, he⟩, ⟨o, ho, hc, hd⟩, _⟩ := st
    have e' : b = e ∨ b = it := by simpa using hb
    rcases e' with z | z
    · rw [z]; exact ⟨_, he, fun v q => nomatch q⟩
    · rw [z]; exact ⟨o, ho, fun v q => by rw [hd] at q; cases q⟩
  keep := fun i h h' st k => let ⟨⟨old, he⟩, hi, hne⟩ := st; ⟨⟨old, k e (by simp) _ he⟩, hi.at fun o q => k it (by simp) o q, hne⟩
  item := by
    intro X hP hw hK hc i pins s σ H E I hf st hg
    subst hP hw hK
    obtain ⟨⟨old, he⟩, hit, hne⟩ := st
    obtain ⟨xs, x, hq, hx⟩ := hg
    obtain ⟨its, rv, p, hz⟩ := I.tuple hq
    obtain ⟨u, hu, ru⟩ := rv.get hx
    have hel : e < s.heap.objs.size := Heap.lt_size he
    have hil : it < s.heap.objs.size := by obtain ⟨_, q, _⟩ := hit; exact Heap.lt_size q
    have hlt : i < its.toArray.size := by
      have := (List.getElem?_eq_some_iff.mp hu).1
      simpa using this
    refine wpAny_pyNext_enum_itemD (Draws.tuple (prog := X.prog) (w := X.w) (A := X.A.in1) (I.ok.hd hc) it a hai its.toArray) he ⟨hit, p⟩ hlt hne (by simp only [List.mem_cons, List.not_mem_nil, or_false, not_or]; exact ⟨hne, fun z => hae z.symm⟩) fun x' h' tk hx' ho hst' hT hsz hk => ?_
    obtain ⟨hit', _⟩ := hst'
    have hxu : x' = u := by
      have hx2 : its.toArray[i]? = some x' := hx'
      have : its[i]? = some x' := by simpa using hx2
      rw [hu] at this
      exact (Option.some.inj this).symm
    subst hxu
    refine ⟨_, rfl, wpAny_letOwnedTupleGo_enum (s := { s with heap := h', toks := tk + 1 }) ho fun h'' he' sb => ?_⟩
    have hT2 : h''.get? s.heap.objs.size = some { cls := .type "tuple", data := .seq #[.int i tk, x'] } := (sb.2 _ (Nat.ne_of_gt hel)).trans hT
    have new : ObjOk X.prog X.w (upd H s.heap.objs.size (.tup [.int (i : Nat), x])) h'' s.heap.objs.size (.tup [.int (i : Nat), x]) :=
      ⟨by show 2 ≤ sizeLine; decide, [.int i tk, x'], .cons ⟨_, rfl⟩ (.cons ru .nil), ⟨_, hT2, rfl, _, rfl⟩⟩
    have I1 : Inv X pins σ (upd H s.heap.objs.size (.tup [.int (i : Nat), x])) { s with heap := h'', toks := tk + 1 } :=
      I.turnedNew (ch := [e, it]) (fun b ob hb q => (sb.2 b (fun z => hb (by simp [z]))).trans (hk b ob (fun z => hb (by simp [z])) (fun z => hb (by simp [z])) q)) hf (Nat.le_refl _) new
    refine ⟨.ref s.heap.objs.size, _, I1, rfl, ⟨_, x, rfl, I.hok.fresh (Nat.le_refl _), rfl, fun ys hy => by rw [I.tuple_inj hy hq]; exact hx⟩, ⟨⟨x', ?_⟩, hit'.at fun o q => (sb.2 it (Ne.symm hne)).trans q, hne⟩, fun b hb => ?_⟩
    · have e1 : ((i + 1 : Nat) : Int) = (i : Int) + 1 := by omega
      rw [e1]; exact he'
    · have hb' : b < s.heap.objs.size := by
        have e' : b = e ∨ b = it := by simpa using hb
        rcases e' with z | z
        · rw [z]; exact hel
        · rw [z]; exact hil
      rw [upd_ne (Nat.ne_of_lt hb')]
      exact (hf b hb).1
  done := by
    intro X hP hw hK hc i pins s σ H E I hf st hg
    subst hP hw hK
    obtain ⟨⟨old, he⟩, hit, hne⟩ := st
    obtain ⟨xs, hq, hx⟩ := hg
    obtain ⟨its, rv, p, hz⟩ := I.tuple hq
    obtain ⟨f0, f1, f2, f3, f4, f5⟩ := hf it (by simp)
    have hl := rv.length
    have hT : s.TypeIs (.ref e) "enumerate" := ⟨_, he, rfl⟩
    unfold pyNext
    refine wpAny_bind (wpAny_attempt (wpAny_callSpecial?_slot (name := Str.ofString "__next__") hT F.slot_enumerate_next
      (wpAny_call_entry F.slot_enumerate_next hT F.entry_enumerate_next ?_ (F.args_enumerate_next_1 _))))
    show wpAny _ _ (field (.ref e) 2 >>= _) _ _ _
    refine wpAny_bind (wpAny_field he rfl (x := .ref it) rfl ?_)
    refine wpAny_bind (wpAny_nextOf_tuple_end (I.ok.hd hc) hit (show s.heap.IsTuple a its.toArray from p) (by simp; omega) fun h' x eb hx' => ?_)
    obtain ⟨o, ho, hc'⟩ := hx'
    refine wpAny_bind (wpAny_isInstance (T := "StopIteration") (b := true) ⟨o, ho, hc'⟩ isSubtype_stop ?_)
    exact wpAny_pure ⟨rfl, I.turned (t' := s.toks) (fun b o hb q => eb b o hb q) f0 f1 f3 f4 f5⟩
  self := fun A i s Q E st h => let ⟨⟨_, he⟩, _⟩ := st; wpAny_pyIter_enum he h
theorem walk_enumT {K : PySem.W.Frag} {a : Addr} {xs : List V} : Walk (ItT K a) xs.length (fun H => SqT K H a xs) (YPair (fun i => some (.int (i : Nat))) (fun i => xs[i]?)) := by
  refine ⟨fun i _ hi q => ⟨xs, xs[i], q, by simp [hi]⟩, fun _ q => ⟨xs, q, Nat.le_refl _⟩, fun i H v H' _ q y => ?_⟩
  obtain ⟨T, x, h1, h2, h3, h4⟩ := y
  exact ⟨T, .int (i : Nat), x, h1, h2, h3, rfl, h4 xs q⟩
/-- a list or a tuple -/
def SqB (b : Bool) (K : PySem.W.Frag) (H : Hp) (a : Addr) (xs : List V) : Prop := if b = true then SqL K H a xs else SqT K H a xs
def iEnE (K : PySem.W.Frag) (ta : TA) : TI := fun σ H R => ta σ H fun vs H1 => ∃ (a : Addr) (xs : List V) (b : Bool), vs = [.ref a] ∧ SqB b K H1 a xs ∧ ∀ J, Walk J xs.length (fun G => SqB b K G a xs) (YPair (fun i => some (.int (i : Nat))) (fun i => xs[i]?)) → R J H1
theorem pi_enE {X : Cx} {e : Expr} {ta : TA} {p pos tpos : Pos} {elts : List Expr} {kk : Nat} (hg : Gl X "enumerate") (hm : X.mg "enumerate" = none) (ha : PA X [e] ta) (hs : starEach [e] X.env = [(false, eval e X.env)] := by rfl) :
    PI X (.Tuple elts kk tpos) (.Call (.Name "enumerate" p) [e] [] pos) (iEnE X.K ta) := by
  refine ⟨fun pins s σ H R I h => ?_⟩
  refine Call_ (ld_blt I hg hm boot_enumerate (PyProof.Rows.callWith_type1 (thn (ha.run pos pins s σ H _ I h) fun us s1 ⟨vs, H1, I1, r1, q1⟩ => ?_) hs rfl))
  obtain ⟨a, xs, b, ex, hq, q⟩ := q1
  subst ex
  cases r1 with
  | cons r rr =>
    cases rr
    cases r
    have fp : ∀ c, c ∈ [s1.heap.objs.size + 1, s1.heap.objs.size] → s1.heap.objs.size ≤ c := fun c hc => by
      have e' : c = s1.heap.objs.size + 1 ∨ c = s1.heap.objs.size := by simpa using hc
      rcases e' with z | z
      · rw [z]; exact Nat.le_add_right _ _
      · rw [z]; exact Nat.le_refl _
    cases b with
    | true =>
      obtain ⟨its, rv, p', hz⟩ := I1.list (show SqL X.K H1 a xs from hq)
      refine call_enumerate_list p'.isList fun h' he hit hsz hk => wpAny_pyIter_enum he ?_
      have I2 : Inv X pins σ H1 { s1 with heap := h' } := I1.kept (t' := s1.toks) hk
      exact ⟨s1.heap.objs.size + 1, [s1.heap.objs.size + 1, s1.heap.objs.size], _, _, H1, rfl, I2, turn_enum a (s1.heap.objs.size + 1) s1.heap.objs.size, ⟨⟨.none, he⟩, hit, Nat.succ_ne_self _⟩, fun b hb => I1.fpOk (fp b hb) (I1.hok.fresh (fp b hb)), q _ walk_enum⟩
    | false =>
      obtain ⟨its, rv, p', hz⟩ := I1.tuple (show SqT X.K H1 a xs from hq)
      have lt : a < s1.heap.objs.size := by obtain ⟨o, ho, _⟩ := id p'; exact Heap.lt_size ho
      refine call_enumerate_tuple (show s1.heap.IsTuple a its.toArray from p') fun h' he hit hsz hk => wpAny_pyIter_enum he ?_
      have I2 : Inv X pins σ H1 { s1 with heap := h' } := I1.kept (t' := s1.toks) hk
      exact ⟨s1.heap.objs.size + 1, [s1.heap.objs.size + 1, s1.heap.objs.size], _, _, H1, rfl, I2, turn_enumT a (s1.heap.objs.size + 1) s1.heap.objs.size (Nat.ne_of_lt lt) (Nat.ne_of_lt (Nat.lt_succ_of_lt lt)), ⟨⟨.none, he⟩, hit, Nat.succ_ne_self _⟩, fun b hb => I1.fpOk (fp b hb) (I1.hok.fresh (fp b hb)), q _ walk_enumT⟩
end En

set_option Elab.async false
set_option linter.all false
set_option maxRecDepth 100000
set_option maxHeartbeats 40000000
namespace Lw
open PySem PySem.Spec PyProof.Rows L2
abbrev sTgtI : Stmt := inClass (top 21) 0
section
variable {P : Program} {w : World} {K : PySem.W.Frag} {mg : Str → Option Value} {base : Heap}
end
/-! what a caller says of an error, when something new stood ahead -/
theorem upN {P : Program} {w : World} : StX.CXUp (L2N.CX P w) := by
  intro fs s H s2 H2 E u s' U kept hos c
  obtain ⟨a, B, H', cls, d, h1, h2, h3, V, h5, h6, h7, h8⟩ := c
  have old : ∀ b o, s.heap.get? b = some o → H b = none → H2 b = none := fun b o q n => U.free b o q n (fun z => by cases z)
  have V2 : UB (frs fs) H H' s.heap B s'.heap :=
    { keep := fun b o q n m => V.keep b o (kept b o q) (old b o q n) m
      slot := fun b o q m => V.slot b o (kept b o q) m
      free := fun b o q n => V.free b o (kept b o q) (old b o q n)
      there := fun b o q m => V.there b o (kept b o q) m
      tups := fun b xs q => V.tups b xs (U.tups b xs q)
      frzs := fun b o xs q => V.frzs b o xs (U.frzs b o xs q)
      tbls := fun b ps q => by
        obtain ⟨m1, q1⟩ := U.tbls b ps q
        obtain ⟨m2, q2⟩ := V.tbls b _ q1
        exact ⟨m1 ++ m2, by rw [q2, Array.append_assoc]⟩ }
  exact ⟨a, B, H', cls, d, h1, h2, h3, V2, h5, h6.trans hos, h7, h8⟩
section
variable {P : Program} {w : World} {K : PySem.W.Frag} {mg : Str → Option Value} {base : Heap}
/-! names and columns -/
def wB : V → Bool
  | .str z => isWordB z
  | _ => false
structure Nm (a : Addr) (H : Hp) (v : V) : Prop where
  pl : PlV a H v
  len : ∀ z, v = .str z → z.length ≤ 1000
theorem Nm.same {a : Addr} {H G : Hp} {v : V} (s : Same H G) (h : Nm a H v) : Nm a G v := ⟨h.pl.same s, h.len⟩
theorem Nm.keep {a : Addr} {H G : Hp} {v : V} (s : Keep a H G) (h : Nm a H v) : Nm a G v := ⟨h.pl.keep s, h.len⟩
theorem Nm.word {K : PySem.W.Frag} {a : Addr} {H : Hp} {v : V} (h : Nm a H v) : (∃ z, v = .str z ∧ z.length ≤ 1000 ∧ wB v = isWordB z) ∨ (wB v = false ∧ NotTy K H v "str") := by
  obtain ⟨pl, len⟩ := h
  cases pl with
  | str z => exact .inl ⟨z, rfl, len z rfl, rfl⟩
  | non => exact .inr ⟨rfl, _, ty_non, by decide +kernel⟩
  | int i => exact .inr ⟨rfl, _, ty_int i, by decide +kernel⟩
  | bl b => exact .inr ⟨rfl, _, ty_bl b, by decide +kernel⟩
  | box n b =>
    cases b with
    | lst h => exact .inr ⟨rfl, _, .base (.lst h), by decide +kernel⟩
    | tup h => exact .inr ⟨rfl, _, .base (.tup h), by decide +kernel⟩
    | dic h => exact .inr ⟨rfl, _, .base (.dK h), by decide +kernel⟩
theorem wB_str {v : V} (h : wB v = true) : ∃ z, v = .str z ∧ IsWord z := by
  cases v with
  | str z => exact ⟨z, rfl, (isWordB_iff z).mp h⟩
  | _ => cases h
def badName : V → Bool
  | .str z => !isWordB z || decide (z ∈ (["table", "key"] : List Str))
  | _ => true
def badC (xs : List V) (i : Nat) : Bool :=
  match xs[i]? with
  | some (.str z) => !isWordB z || (decide (z = "key") || inV (.str z) (xs.take i))
  | some _ => true
  | none => false
def badAt (xs : List V) : Option Nat := (List.range xs.length).find? (badC xs)
theorem bad_none {xs : List V} (h : ∀ j, j < xs.length → badC xs j = false) : badAt xs = none := by
  unfold badAt
  rw [List.find?_eq_none]
  intro j hj
  rw [h j (List.mem_range.mp hj)]
  exact Bool.false_ne_true
theorem bad_some {xs : List V} {i : Nat} (hi : i < xs.length) (hb : badC xs i = true) (h : ∀ j, j < i → badC xs j = false) : badAt xs = some i := by
  unfold badAt
  rw [List.find?_range_eq_some]
  exact ⟨hb, List.mem_range.mpr hi, fun j hj => by rw [h j hj]; rfl⟩
theorem good_str {xs : List V} {i : Nat} {v : V} (hx : xs[i]? = some v) (h : badC xs i = false) : ∃ z, v = .str z ∧ IsWord z ∧ z ≠ "key" ∧ inV (.str z) (xs.take i) = false := by
  unfold badC at h
  rw [hx] at h
  cases v with
  | str z =>
    have h : (!isWordB z || (decide (z = "key") || inV (.str z) (xs.take i))) = false := h
    rw [Bool.or_eq_false_iff, Bool.or_eq_false_iff] at h
    obtain ⟨h1, h2, h3⟩ := h
    exact ⟨z, rfl, (isWordB_iff z).mp (by simpa using h1), of_decide_eq_false h2, h3⟩
  | _ => cases h
theorem good_flat {xs : List V} {i : Nat} (h : ∀ j, j < i → badC xs j = false) : ((xs.take i).all flatV) = true := List.all_eq_true.mpr fun v hv => by
  obtain ⟨j, hj⟩ := List.getElem?_of_mem hv
  have hl := (List.getElem?_eq_some_iff.mp hj).1
  rw [List.length_take] at hl
  rw [List.getElem?_take_of_lt (by omega)] at hj
  obtain ⟨z, rfl, _⟩ := good_str hj (h j (by omega))
  rfl
theorem cut_take {xs : List V} {i : Nat} (h : i ≤ xs.length) : cutV xs none (some (i : Int)) = xs.take i := by
  unfold cutV
  rw [HT.sIx_none, HT.sIx_nat, List.drop_zero, Nat.min_eq_left h, Nat.sub_zero]
theorem SqB.same {b : Bool} {H G : Hp} {p : Addr} {xs : List V} (s : Same H G) (h : En.SqB b K H p xs) : En.SqB b K G p xs := by
  cases b with
  | true => exact L2.Same.seq s h
  | false => exact Keep.seqT (a := p + 1) (Keep.of_same s) (Nat.ne_of_lt (Nat.lt_succ_self p)) h
def PlB (b : Bool) (H : Hp) (c : Addr) (xs : List V) : Prop := if b = true then H c = some (.lst xs) else H c = some (.tup xs)
theorem PlB.sq {K : PySem.W.Frag} {b : Bool} {H : Hp} {c : Addr} {xs : List V} (h : PlB b H c xs) : En.SqB b K H c xs := by
  cases b with
  | true => exact SqL.of h
  | false => exact SqT.of h
theorem PlB.same {b : Bool} {H G : Hp} {c : Addr} {xs : List V} (s : Same H G) (h : PlB b H c xs) : PlB b G c xs := by
  cases b with
  | true => exact s _ _ h
  | false => exact s _ _ h
theorem PlB.keep {a : Addr} {b : Bool} {H G : Hp} {c : Addr} {xs : List V} (s : Keep a H G) (n : c ≠ a) (h : PlB b H c xs) : PlB b G c xs := by
  cases b with
  | true => exact s _ _ n h
  | false => exact s _ _ n h
theorem PlB.ne {b : Bool} {H : Hp} {c x : Addr} {xs : List V} (h : PlB b H c xs) (n : H x = none) : c ≠ x := by
  cases b with
  | true => exact ne_of_none h n
  | false => exact ne_of_none h n
theorem PlV.keepI {a p : Addr} {H G : Hp} {v : V} {C dx : Addr} {fs : List (Str × V)} (k : Keep p H G) (hp : H p = some (.ins C dx fs)) (h : PlV a H v) : PlV a G v := by
  cases h with
  | str z => exact .str z
  | non => exact .non
  | int i => exact .int i
  | bl b => exact .bl b
  | @box q n b =>
    cases b with
    | lst h => exact .box n (.lst (k _ _ (fun e => by rw [e, hp] at h; cases h) h))
    | tup h => exact .box n (.tup (k _ _ (fun e => by rw [e, hp] at h; cases h) h))
    | dic h => exact .box n (.dic (k _ _ (fun e => by rw [e, hp] at h; cases h) h))
theorem PlH.keepI {a p : Addr} {H G : Hp} {y : Hv} {C dx : Addr} {fs : List (Str × V)} (k : Keep p H G) (hp : H p = some (.ins C dx fs)) (h : PlH a H y) : PlH a G y := ⟨h.pr.keepI k hp, h.la.keepI k hp, h.go.keepI k hp, h.sh.keepI k hp⟩
def TgtAt (CG CH : Addr) (H : Hp) (p : Addr) (nm : V) (xs : List V) (y : Hv) : Prop := ∃ dx t h, H p = some (.ins CG dx [("name", nm), ("columns", .ref t), ("habits", .ref h)]) ∧ H t = some (.tup xs) ∧ HabAtV CH H h y
def spTgt (CG CH CB CT : Addr) (ks : List Str) (gv : List V → List V → List V) : Sp := fun vs H Q E => ∃ (p dx a c d : Addr) (nm : V) (xs zs : List V) (b : Bool) (y : Hv), vs = [.ref p, nm, .ref c, .ref d] ∧ H p = some (.ins CG dx []) ∧ c ≠ p ∧ H d = some (.dK ((ks.map Sum.inr).zip zs)) ∧ zs.length = ks.length ∧
  PlB b H c xs ∧ xs.length ≤ 1000 ∧ Nm a H nm ∧ (∀ v ∈ xs, Nm a H v) ∧ (∀ q, gv [.ref q] zs = [.ref q, y.pr, y.la, y.go, y.sh]) ∧ PlH a H y ∧
  (badName nm = true → ∀ d G, H d = none → Same H G → G d = some (.xd (atF (-1))) → E (.ref CT) (some d) G) ∧
  (badName nm = false → ∀ i, badAt xs = some i → ∀ d G, H d = none → Same H G → G d = some (.xd (atF (i : Nat))) → E (.ref CT) (some d) G) ∧
  (badName nm = false → badAt xs = none → ∀ z r, wrongs y = z :: r → ∀ d G, H d = none → Keep p H G → G d = some (.xd (habF z)) → E (.ref CB) (some d) G) ∧
  (badName nm = false → badAt xs = none → wrongs y = [] → ∀ G, Keep p H G → TgtAt CG CH G p nm xs y → Q .non G)
structure TxtG (K : PySem.W.Frag) (mg : Str → Option Value) (CG CTb : Addr) : Prop where
  cl : Cls K CG
  n1 : NoAttr K CG "name"
  n2 : NoAttr K CG "columns"
  n3 : NoAttr K CG "habits"
  gTab : ∃ tk, mg "TABLE" = some (.str "table" tk)
  gT : mg "Table" = some (.ref CTb)
  rd : ClX.CRead K CTb (.type "type")
  key : ∃ u, ClX.CVal K CTb (.type "type") "KEY" (.str "key") u
  enum : mg "enumerate" = none
  tup : mg "tuple" = none
abbrev nTgt : List Str := ["self", "name", "columns", "habits", "at", "column"]
theorem scTgt : FnScope nTgt ((["self", "name", "columns"] : List Str) ++ [("habits" : Str)]) (defScope sTgtI) := ⟨rfl, rfl, rfl, by decide +kernel, rfl, by decide +kernel, by decide +kernel⟩
abbrev psH : List Str := ["self", "present", "lacking", "gone", "shared"]
/-- what the binding of Target's keywords comes to -/
def KwB (ks : List Str) : Prop := ∀ (kV doc pm : Value) (an : Option Addr) (cdv ct : Value) (us ws : List Value), us.length = (["self", "name", "columns"] : List Str).length → ws.length = ks.length → bindArgs (PySem.W.fnOf "__init__" "Target.__init__" (defArgs sTgtI) (defBody sTgtI) (defScope sTgtI) .none kV doc pm an cdv ct) ⟨us, ks.zip ws⟩ =
  ((alloc ({ cls := .type "dict", data := .dict #[] } : Obj) : Sem Addr) >>= fun d => (forIn (ks.zip ws) PUnit.unit fun kv (_ : PUnit) => (do nsSet d kv.1 kv.2; pure (ForInStep.yield PUnit.unit) : Sem (ForInStep PUnit))) >>= fun _ => pure ((["self", "name", "columns"] : List Str).zip us ++ [(("habits" : Str), Value.ref d)]))
theorem kwb0 : KwB [] := fun kV doc pm an cdv ct us ws h1 h2 => match us, h1, ws, h2 with
  | [_, _, _], _, [], _ => rfl
theorem kwb2 : KwB ["gone", "present"] := fun kV doc pm an cdv ct us ws h1 h2 => match us, h1, ws, h2 with
  | [_, _, _], _, [_, _], _ => rfl
theorem kwb4 : KwB ["present", "lacking", "gone", "shared"] := fun kV doc pm an cdv ct us ws h1 h2 => match us, h1, ws, h2 with
  | [_, _, _], _, [_, _, _, _], _ => rfl
theorem keep_ins3 {H G : Hp} {x dx : Addr} {o u : HO} (hx : H x = none) (hd : H dx = none) (k : Keep x (upd (upd H dx o) x u) G) : Same H G := fun b z h => by
  refine k b z (ne_of_none h hx) ?_
  rw [upd_ne (ne_of_none h hx), upd_ne (ne_of_none h hd)]
  exact h
theorem same_ins3 {H : Hp} {x dx : Addr} {o u : HO} (hx : H x = none) (hd : H dx = none) : Same H (upd (upd H dx o) x u) := fun b z h => by
  rw [upd_ne (ne_of_none h hx), upd_ne (ne_of_none h hd)]
  exact h
theorem ok_tgt {CG CH CB CT CTb f fH : Addr} {fd fdH : FuncData} {ks : List Str} {gv : List V → List V → List V} (F : MethD K "__init__" "Target.__init__" sTgtI f fd) (KB : KwB ks) (nks : ks.Nodup) (few : ks.length ≤ 100) (T : TxtG K mg CG CTb) (B : BtT P w K mg base CT)
    (cW : Cal P w K mg base CX0 "is_word" 1 ["value"] (spIsWord K)) (MH : Mk K CH fH) (DH : HabD K fH fdH) (FH : FnOk P w K mg base (L2N.CX P w) 4 fH fdH psH (spHabV CH CB)) (gH : mg "Habits" = some (.ref CH)) (hk : ∃ g : List Value → List Value → List Value, KBn K fdH psH 1 ks g gv) : Kw.FnKw P w K mg base (L2N.CX P w) 6 f ks (spTgt CG CH CB CT ks gv) := by
  obtain ⟨oc, od, dV, kV, doc, pm, an, cdv, ct, osl, rfl, lk, hcd, hD, hK⟩ := F.ex
  rcases hD with ⟨_, rfl⟩ | ⟨e, _⟩
  rotate_left
  · exact absurd rfl e
  obtain ⟨ttk, gTab⟩ := T.gTab
  obtain ⟨uk, hkey⟩ := T.key
  refine Kw.fn_kw (ps := ["self", "name", "columns"]) (pd := "habits") lk hcd scTgt upN nks few (fun vs H Q E h => ?_) (fun us ws h1 h2 => KB kV doc pm an cdv ct us ws h1 h2) (fun A outer s H vs Q E hr h => ?_)
  · obtain ⟨p, dx, a, c, d, nm, xs, zs, b, y, rfl, _⟩ := h
    rfl
  · obtain ⟨p, dx, a, c, d, nm, xs, zs, b, y, rfl, hp, cp, hd, lz, hcp, lx, hnm, hxs, hgv, py, kN, kC, kH, k⟩ := h
    have nd := scTgt.nd
    have hc : En.SqB b K H c xs := hcp.sq
    have h1 : Room 1 _ := hr.mono (by decide)
    have h3 : Room 3 _ := hr.mono (by decide)
    have pE : Passes (L2N.CX P w) (cxOf (L2N.CX P w) P w K mg base nTgt "Target.__init__" (defScope sTgtI) f cdv A outer s H E) E := L2N.passes_call (W := fun cls d _ G => E cls d G) (L2N.takes_of rfl rfl rfl rfl) (fun _ _ _ _ h => h)
    have hL : ∀ k2 ∈ [ks], k2.Nodup ∧ k2.length ≤ 1000 ∧ ∃ g : List Value → List Value → List Value, KBn K fdH psH 1 k2 g ((fun _ => gv) k2) := fun k2 hk2 => by
      rw [List.mem_singleton.mp hk2]
      exact ⟨nks, by omega, hk⟩
    refine ⟨_, pss_cons (ps_if (PW.pt (pw_or (pt_not (pt_val (pe_cal cW h1 (pa_cons (pv 1) pa_nil)))) (pw_or1 (pt_cmpR op_in_seq (pv 1) (pe_tup (pa_cons (pe_glob (v := .str "table") rfl gTab ⟨_, rfl⟩) (pa_cons (ClX.pe_cval (pe_glob (v := .ref CTb) rfl T.gT rfl)) pa_nil))) rfl))))
        (pss_one (ps_badtgt B rfl h3 (L2N.takes_of rfl rfl rfl rfl) (pa_cons (pe_un un_neg pe_int) pa_nil))) pss_nil)
      (pss_cons (ps_for (L2.passes_of rfl) rfl (En.pi_enE (by rfl) T.enum (pa_cons (pv 2) pa_nil)) (pg_tup (by rfl) (pgs_cons (pg_name (i := 4) nd rfl (Or.inl rfl)) (pgs_cons (pg_name (i := 5) nd rfl (Or.inl rfl)) pgs_nil)))
        (pss_one (ps_if (PW.pt (pw_or (pt_not (pt_val (pe_cal cW h1 (pa_cons (pv 5) pa_nil)))) (pw_or (pt_cmpR op_eq (pv 5) (ClX.pe_cval (pe_glob (v := .ref CTb) rfl T.gT rfl)) (nomark _)) (pw_or1 (pt_cmpR op_in_seq (pv 5) (pe_slice (SlR.or sl_list sl_tup) (pv 2) po_none (po_some (pv 4))) rfl)))))
          (pss_one (ps_badtgt B rfl h3 (L2N.takes_of rfl rfl rfl rfl) (pa_cons (pv 4) pa_nil))) pss_nil)))
      (pss_cons (ps_fld (pv 0) (pv 1) rfl) (pss_cons (ps_fld (pv 0) (pe_callTy call_tuple_of (by rfl) T.tup (by decide +kernel) (pa_cons (pv 2) pa_nil)) rfl)
      (pss_one (ps_fld (pv 0) (Mm.pe_makeD (L := [ks]) (gV := fun _ => gv) MH FH hr (by rfl) gH hL pE (pv 3)) rfl))))), ?_⟩
    refine sq_if (fun b' G => Same H G ∧ b' = badName nm) (fun Q q => ?_) ?_ ?_
    · refine ⟨_, rfl, _, _, rfl, hnm.word, fun G s => ⟨_, rfl, ?_⟩⟩
      cases hw : wB nm with
      | false =>
        refine iteT (q _ _ ⟨s, ?_⟩)
        cases nm with
        | str z =>
          have hw : isWordB z = false := hw
          show true = (!isWordB z || _)
          rw [hw]
          rfl
        | _ => rfl
      | true =>
        obtain ⟨z, rfl, hz⟩ := wB_str hw
        refine iteF ⟨_, rfl, CTb, _, _, uk, rfl, T.rd, hkey, (by show 2 ≤ sizeLine; decide), fun t nt => ?_⟩
        refine ⟨t, [.str "table", .str "key"], rfl, .inr (SqT.of upd_same), rfl, rfl, _, rfl, q _ _ ⟨Lw.Same.new s nt, ?_⟩⟩
        have e1 := inV_str z ["table", "key"]
        show inV (.str z) ((["table", "key"] : List Str).map V.str) = (!isWordB z || decide (z ∈ (["table", "key"] : List Str)))
        rw [isWordB_true hz, e1]
        rfl
    · rintro G ⟨sG, e⟩
      exact ⟨_, rfl, badtgt_tail fun d2 G2 nd2 s g => kN e.symm d2 G2 (none_of_same sG nd2) (sG.trans s) g⟩
    rintro G0 ⟨s0, e0⟩
    have e0 : badName nm = false := e0.symm
    refine ⟨_, rfl, c, xs, b, rfl, SqB.same s0 hc, fun J wk => ?_⟩
    refine for_it wk (fun i σ G => Same H G ∧ (∀ j, j < i → badC xs j = false) ∧ ∃ v4 v5 : Option V, σ = [some (.ref p), some nm, some (.ref c), some (.ref d), v4, v5]) ⟨s0, fun j h => absurd h (Nat.not_lt_zero _), _, _, rfl⟩ (fun i σ G _ ⟨s', _⟩ => SqB.same s' hc) ?_ ?_
    · rintro i x σ G G' hi ⟨sG, bef, v4, v5, rfl⟩ ⟨t, x0, x1, rfl, nt, rfl, q1, hx⟩
      cases q1
      have hx : xs[i]? = some x1 := hx
      have s1 := Lw.Same.new (o := .tup [.int (i : Nat), x1]) sG nt
      refine ⟨t, _, rfl, SqT.of upd_same, rfl, _, _, rfl, _, _, rfl, rfl, ?_⟩
      generalize upd G t (.tup [.int (i : Nat), x1]) = G1 at s1 ⊢
      have hm : x1 ∈ xs := List.mem_of_getElem? hx
      refine s1_if (fun b' G => Same H G ∧ b' = badC xs i) (fun Q q => ?_) ?_ ?_
      · refine ⟨_, rfl, _, _, rfl, ((hxs x1 hm).same s1).word, fun G2 s2 => ⟨_, rfl, ?_⟩⟩
        have sH := s1.trans s2
        cases hw : wB x1 with
        | false =>
          refine iteT (q _ _ ⟨sH, ?_⟩)
          unfold badC
          rw [hx]
          cases x1 with
          | str z =>
            have hw : isWordB z = false := hw
            show true = (!isWordB z || _)
            rw [hw]
            rfl
          | _ => rfl
        | true =>
          obtain ⟨z, rfl, hz⟩ := wB_str hw
          have eb : badC xs i = (decide (z = "key") || inV (.str z) (xs.take i)) := by
            unfold badC
            rw [hx]
            show (!isWordB z || _) = _
            rw [isWordB_true hz]
            rfl
          rw [eb] at q
          refine iteF ⟨_, rfl, CTb, _, _, uk, rfl, T.rd, hkey, rfl, _, rfl, ?_⟩
          by_cases hk : z = "key"
          · refine itTb (decide_eq_true (by rw [hk])) (q _ _ ⟨sH, ?_⟩)
            rw [decide_eq_true hk]
            rfl
          · refine itFb (decide_eq_false fun e => hk (V.str.inj e)) ?_
            rw [decide_eq_false hk, Bool.false_or] at q
            have il : i < xs.length := hi
            refine ⟨_, rfl, _, rfl, _, rfl, _, rfl, ?_⟩
            have cq := SqB.same sH hc
            have ct := cut_take (xs := xs) (i := i) (Nat.le_of_lt il)
            cases b with
            | true =>
              refine .inl ⟨c, xs, rfl, cq, fun t2 nt2 => ?_⟩
              rw [ct]
              exact ⟨t2, xs.take i, rfl, .inl (SqL.of upd_same), rfl, good_flat bef, _, rfl, q _ _ ⟨Lw.Same.new sH nt2, rfl⟩⟩
            | false =>
              refine .inr ⟨c, xs, rfl, cq, fun hh => ?_, fun t2 nt2 => ?_⟩
              · have h2 := hh.2
                rw [HT.sIx_nat] at h2
                omega
              · rw [ct]
                exact ⟨t2, xs.take i, rfl, .inr (SqT.of upd_same), rfl, good_flat bef, _, rfl, q _ _ ⟨Lw.Same.new sH nt2, rfl⟩⟩
      · rintro G2 ⟨s2, e⟩
        refine ⟨_, rfl, badtgt_tail fun d2 G3 nd2 s g => kC e0 i (bad_some hi e.symm bef) d2 G3 (none_of_same s2 nd2) (s2.trans s) g⟩
      · rintro G2 ⟨s2, e⟩
        refine ⟨s2, fun j hj => ?_, _, _, rfl⟩
        rcases Nat.lt_or_eq_of_le (Nat.le_of_lt_succ hj) with hj | rfl
        · exact bef j hj
        · exact e.symm
    · rintro σ G ⟨sG, bef, v4, v5, rfl⟩
      have eB := bad_none bef
      dsimp only
      have gp := sG _ _ hp
      have dp : d ≠ p := fun e => by rw [e, hp] at hd; cases hd
      have fin : ∀ (t : Addr) (G1 : Hp), Keep p H G1 → G1 p = some (.ins CG dx [("name", nm), ("columns", .ref t)]) → G1 t = some (.tup xs) → t ≠ p →
          sFld K (tVar 0) (Mm.tMakeD CH (spHabV CH CB) (fun _ => gv) E [ks] (tVar 3)) "habits" { nx := fun _ H' => Q V.non H', rt := Q } [some (.ref p), some nm, some (.ref c), some (.ref d), v4, v5] G1 := by
        intro t G1 k1 hp1 ht tp d0 n0
        have hd1 : G1 d = some (.dK ((ks.map Sum.inr).zip zs)) := k1 _ _ dp hd
        have dd : d0 ≠ d := fun e => by rw [e, hd1] at n0; cases n0
        refine ⟨_, rfl, ks, d, zs, List.mem_singleton.mpr rfl, rfl, dd, upd_same, .inl (by rw [upd_ne dd.symm]; exact hd1), lz, fun yb dy ny ndy ne => ?_⟩
        show spHabV CH CB (gv [.ref yb] zs) _ _ _
        rw [hgv yb]
        have sB : Same G1 (upd (upd G1 d0 (.dK [])) d0 (.dK ((ks.map Sum.inr).zip zs))) := fun b u e => by
          rw [upd_ne (ne_of_none e n0), upd_ne (ne_of_none e n0)]
          exact e
        have sI := same_ins3 (o := .own yb) (u := .ins CH dy []) ny ndy
        have nb : ∀ b, G1 b = none → H b = none := fun b e => by
          cases q : H b with
          | none => rfl
          | some o =>
            have bp : b ≠ p := fun z => by rw [z, hp1] at e; cases e
            rw [k1 _ _ bp q] at e
            cases e
        have yp : yb ≠ p := fun z => by
          have := none_of_same sB ny
          rw [z, hp1] at this
          cases this
        refine ⟨yb, dy, a, y, rfl, upd_same, (py.keepI k1 hp).same (sB.trans sI), fun z r e d3 G4 nd s g => kH e0 eB z r e d3 G4 (nb _ (none_of_same (sB.trans sI) nd)) (fun b o n h => s _ _ (sI _ _ (sB _ _ (k1 _ _ n h)))) g, fun e G4 kG hab => ⟨rfl, ?_⟩⟩
        have s4 : Same G1 G4 := sB.trans (keep_ins3 ny ndy kG)
        obtain ⟨dxh, hh⟩ := hab
        refine ⟨_, rfl, p, CG, dx, _, rfl, s4 _ _ hp1, T.cl, T.n3, (by show 2 < 1000; decide), k e0 eB e _ (fun b o n h => ?_) ⟨dx, t, yb, upd_same, ?_, dxh, ?_⟩⟩
        · rw [upd_ne n]
          exact s4 _ _ (k1 _ _ n h)
        · rw [upd_ne tp]
          exact s4 _ _ ht
        · rw [upd_ne yp]
          exact hh
      refine ⟨_, rfl, _, rfl, p, CG, dx, _, rfl, gp, T.cl, T.n1, (by show 0 < 1000; decide), ?_⟩
      have kA : Keep p H (upd G p (.ins CG dx [("name", nm)])) := (Keep.of_same sG).upd
      refine ⟨_, rfl, c, xs, rfl, ?_⟩
      have cq := SqB.same sG hc
      cases b with
      | true =>
        refine .inl ⟨((Keep.refl G).upd).seq cp cq, fun l nl => ?_⟩
        have lp : l ≠ p := fun e => by rw [e, upd_same] at nl; cases nl
        refine ⟨_, rfl, p, CG, dx, _, rfl, (by rw [upd_ne lp.symm]; exact upd_same), T.cl, T.n2, (by show 1 < 1000; decide), ?_⟩
        refine fin l _ (fun b o n h => ?_) upd_same (by rw [upd_ne lp]; exact upd_same) lp
        have bl : b ≠ l := ne_of_none (kA _ _ n h) nl
        rw [upd_ne n, upd_ne bl]
        exact kA _ _ n h
      | false =>
        have ct := ((Keep.refl G).upd (o := .ins CG dx [("name", nm)])).seqT cp cq
        refine .inr ⟨ct, _, rfl, p, CG, dx, _, rfl, upd_same, T.cl, T.n2, (by show 1 < 1000; decide), ?_⟩
        refine fin c _ (fun b o n h => ?_) upd_same (by rw [upd_ne cp]; exact kA _ _ cp hcp) cp
        rw [upd_ne n]
        exact kA _ _ n h
end
end Lw

set_option Elab.async false
set_option linter.all false
set_option maxRecDepth 100000
set_option maxHeartbeats 2000000
/-! try with several clauses, each with a name -/
namespace Ta
open PySem PySem.Spec PyProof.Rows L2
abbrev Cl := Value × Nat × (Addr → Value → Option Addr → TS)
def wMany (K : PySem.W.Frag) (Wout : WX) (D : Ends) : List Cl → WX
  | [] => Wout
  | (c, i, ts) :: r => fun cls d σ H => ∃ b, PySem.W.exmOne K cls c = some b ∧ (b = true → ∀ a, H a = none → ts a cls d { nx := fun σ' H' => D.nx (σ'.set i none) H', rt := D.rt, bk := fun σ' H' => D.bk (σ'.set i none) H', ct := fun σ' H' => D.ct (σ'.set i none) H' } (σ.set i (some (.ref a))) H) ∧
    (b = false → wMany K Wout D r cls d σ H)
inductive HdsOk (X : Cx) : List ExceptHandler → List Cl → Prop
  | nil : HdsOk X [] []
  | cons {x n : Str} {c : Value} {i : Nat} {ts : Addr → Value → Option Addr → TS} {b₀ : Stmt} {suite : List Stmt} {np pos' : Pos} {hds : List ExceptHandler} {l : List Cl} (hi : X.N[i]? = some n) (hln : X.env.kindOf n = some .local) (hc : Names X x c)
      (hsu : ∀ (a : Addr) (oe : Obj) (cls : Value) (d : Option Addr) (pn : List (Addr × Obj)), Zc cls d oe → (∃ vs, oe.data = .fields vs) → PSs (X.suite a ((a, oe) :: pn)) (b₀ :: suite) (ts a cls d)) (r : HdsOk X hds l) :
      HdsOk X (.ExceptHandler (some (.Name x np)) (some n) (b₀ :: suite) pos' :: hds) ((c, i, ts) :: l)
section
variable {X : Cx} {body : List Stmt} {h₀ : ExceptHandler} {hds : List ExceptHandler} {l : List Cl} {pos : Pos} {tb : WX → TS} {Wout : WX}
theorem ps_try_manyA (hs : X.stack = X.env :: X.outer) (hf : X.env.frame = some X.env.locals) (hN : X.N.Nodup) (tk : Takes X Wout)
    (hb : ∀ (W : WX) (pn : List (Addr × Obj)) (xe : Value → Shared → Prop), Takes (X.tr pn xe) W → PassesOwn (model X.prog X.w) X.A X.env xe → PSs (X.tr pn xe) body (tb W))
    (hh : HdsOk X (h₀ :: hds) l) : PS X (.Try body (h₀ :: hds) [] [] pos) (fun D σ H => tb (wMany X.K Wout D l) D σ H) := by
  refine ⟨fun pins s σ H D I h => ?_⟩
  have ok := I.ok
  have hfr : X.A.frames = some (X.env :: X.outer) := by rw [ok.frames, hs]
  refine wpAny_Try_except ?_
  refine wpAny_mono ((hb (wMany X.K Wout D l) (X.pn ++ pins) (fun e s₁ => wpAny (model X.prog X.w) X.A (noteFrame e X.env) (fun _ s₂ => wpAny (model X.prog X.w) X.A (setFlight e none) (fun _ s₃ =>
    wpAny (model X.prog X.w) X.A (handleBy e X.env (h₀ :: hds)) (SP X pins D) X.xe s₃) X.xe s₂) X.xe s₁) (fun u s' xx => ?_) PassesOwn.looking).run [] s σ H D (I.toTry _) h) (fun f s1 hsp => ?_) (fun e s1 he => he)
  · obtain ⟨a, B, sI, pins', σ', H', cls, d, rfl, J', nb, up, sky, na, os, ag, w⟩ := xx
    have J : Inv X pins σ' H' sI := J'.ofTry ok
    have sky' : Sky B (X.env :: X.outer) a (Zc cls d) X.env.locals s'.heap := by rw [← hs]; exact sky
    show wpAny (model X.prog X.w) X.A (noteFrame (.ref a) X.env) _ _ _
    refine Sky.land Zc.steady hfr hf sky' fun h3 fl3 up3 => ?_
    have J3 : Inv X pins σ' H' { s' with heap := h3 } := J.landed nb fl3.1 (up.trans up3) os ag
    obtain ⟨oe3, vs3, he3, hz3, hd3⟩ := fl3.there
    have notFr : ∀ {h : Heap} {o : Obj} {vs : Array Value}, h.FunFrames B (X.env :: X.outer) → h.get? a = some o → o.data = .fields vs → a ∉ frs (X.env :: X.outer) := fun {h o vs} ff e dd hm => by
      obtain ⟨_, o', e', hnf⟩ := ff.mem hm
      rw [e] at e'; cases e'
      exact hnf _ dd
    have nfr := notFr fl3.2.2.1 he3 hd3
    have nL : a ≠ X.env.locals := fun z => nfr (List.mem_filterMap.mpr ⟨X.env, List.mem_cons_self, by rw [hf, z]⟩)
    have nF : a ∉ X.fs := fun hm => by
      obtain ⟨e, he, q⟩ := List.mem_filterMap.mp hm
      exact nfr (List.mem_filterMap.mpr ⟨e, List.mem_cons_of_mem _ he, q⟩)
    have S3 := J3.suite he3 hd3 na nL nF
    have go : ∀ {hds' : List ExceptHandler} {l' : List Cl}, HdsOk X hds' l' → wMany X.K Wout D l' cls d σ' H' →
        wpAny (model X.prog X.w) X.A (handleBy (.ref a) X.env hds') (SP X pins D) X.xe { s' with heap := h3 } := by
      intro hds' l' hk
      induction hk with
      | nil =>
        intro w
        refine wpAny_handleBy_nil ?_
        obtain ⟨k1, k2, k3, oe, vs, T, oT, ts', he, hz, hd, h1, hr⟩ := id fl3
        unfold PySem.passOn
        refine wpAny_bind (wpAny_field he hd h1 ?_)
        rw [if_neg (show ¬ ((Value.ref T == Value.none) = true) from by simp)]
        have fin : wpAny (model X.prog X.w) X.A (setFlight (.ref a) X.env.frame) (fun _ s4 => wpAny (model X.prog X.w) X.A (throw (.ref a) : Sem Flow) (SP X pins D) X.xe s4) X.xe { s' with heap := h3 } := by
          rw [hf]
          refine HandSPX.setFlight_upZ fl3 fun h4 hh4 up4 => wpAny_throw (tk _ _ ?_)
          exact ⟨a, B, sI, pins, σ', H', cls, d, rfl, J, nb, (up.trans up3).trans up4, .inr (.inr (by rw [hs]; exact hh4)), na, os, ag, w⟩
        first
          | exact wpAny_bind (wpAny_pure (wpAny_bind fin))
          | exact wpAny_bind fin
      | @cons x n c i ts b₀ suite np pos' hds2 l2 hi hln hc hsu r ih =>
        intro w
        have hloc : Loc X.env.scope n := .inl hln
        obtain ⟨b, hb1, hyes, hno⟩ := w
        refine wpAny_handleBy_cons (codeAny_handlers_test ?_) (by intro q; cases q)
        have LT : PySem.W.Looks (model X.prog X.w) h3 (typeOf (.ref a)) cls := fun A Q E s k q => wpAny_typeOf_ref (k _ _ he3) (by rw [hz3.1]; exact q)
        have LM := PySem.W.exm_one (M := model X.prog X.w) (J3.kIn) LT hb1
        have test : ∀ {Q : Value → Shared → Prop} {E : Value → Shared → Prop}, Q c { s' with heap := h3 } → wpAny (model X.prog X.w) (X.A.mark (some (.ref a))) (eval (.Name x np) X.env) Q E { s' with heap := h3 } := fun {Q E} q => by
          obtain ⟨hg, hdbg, hm | ⟨hm, hv, hnn⟩⟩ := hc
          · exact ld_glob (X := X.suite a ((a, oe3) :: (X.pn ++ pins))) S3 hg hm q hdbg
          · exact ld_blt (X := X.suite a ((a, oe3) :: (X.pn ++ pins))) S3 hg hm hv q hnn hdbg
        refine test (LM.here ?_)
        cases b with
        | true =>
          refine codeAny_handlers_suite_as ?_
          refine HandSPX.lands_againZ fl3 fun h4 fl4 up4 => ?_
          have J4 : Inv X pins σ' H' { s' with heap := h4 } := J.landed nb fl4.1 ((up.trans up3).trans up4) os ag
          obtain ⟨oe4, vs4, he4, hz4, hd4⟩ := fl4.there
          have S4 := J4.suite he4 hd4 na nL nF
          refine store_ok (X := X.suite a ((a, oe4) :: (X.pn ++ pins))) (v := .ref a) S4 hN hi hloc rfl (fun s5 S5 => ?_) (.inr hln)
          refine wpAny_mono ((hsu a oe4 cls d (X.pn ++ pins) hz4 ⟨_, hd4⟩).run [] s5 _ H' _ S5 (hyes rfl a na)) (fun f s6 hsp => ?_) (fun _ _ z => False.elim z)
          have end_ : ∀ {σ6 : L2.St} {H6 : Hp} {Q : Shared → Prop}, Inv (X.suite a ((a, oe4) :: (X.pn ++ pins))) [] σ6 H6 s6 → (∀ s7, Inv X pins (σ6.set i none) H6 s7 → Q s7) →
              wpAny (model X.prog X.w) X.A (do bindName X.env n .none; unbindBehindTheSuite X.env n pos') (fun _ s7 => Q s7) X.xe s6 := fun {σ6 H6 Q} S6 hq => gone_ok (S6.unsuite ok) hN hi hln hq
          cases f with
          | next =>
            obtain ⟨σ6, H6, S6, q6⟩ := hsp
            exact end_ S6 fun s7 J7 => ⟨_, _, J7, q6⟩
          | brk =>
            obtain ⟨σ6, H6, S6, q6⟩ := hsp
            exact end_ S6 fun s7 J7 => ⟨_, _, J7, q6⟩
          | cont =>
            obtain ⟨σ6, H6, S6, q6⟩ := hsp
            exact end_ S6 fun s7 J7 => ⟨_, _, J7, q6⟩
          | ret u =>
            obtain ⟨v6, σ6, H6, S6, r6, q6⟩ := hsp
            exact end_ S6 fun s7 J7 => ⟨_, _, _, J7, r6, q6⟩
        | false =>
          show wpAny _ X.A (handleBy (.ref a) X.env hds2) _ _ _
          exact ih (hno rfl)
    exact go hh w
  · cases f with
    | next =>
      obtain ⟨σ', H', J', q⟩ := hsp
      exact wpAny_execs_nil ⟨σ', H', J'.ofTry ok, q⟩
    | brk =>
      obtain ⟨σ', H', J', q⟩ := hsp
      exact ⟨σ', H', J'.ofTry ok, q⟩
    | cont =>
      obtain ⟨σ', H', J', q⟩ := hsp
      exact ⟨σ', H', J'.ofTry ok, q⟩
    | ret u =>
      obtain ⟨v, σ', H', J', r, q⟩ := hsp
      exact ⟨v, σ', H', J'.ofTry ok, r, q⟩
end
/-! isinstance(e, (C1, C2, ..)) of a caught error with its own dict -/
def rIsEDT (K : PySem.W.Frag) (cls : Value) (d : Option Addr) (a : Addr) : List V → Hp → VK → Prop := fun xs H Q =>
  ∃ (D dd tp : Addr) (cs : List V) (us : List Value) (b : Bool) (fs : List (Str × V)), cls = .ref D ∧ d = some dd ∧ ExcC K D ∧ xs = [.ref a, .ref tp] ∧ H tp = some (.tup cs) ∧ Paired ClsV cs us ∧ H dd = some (.xd fs) ∧ PySem.W.kitAny K (.ref D) us = some b ∧ Q (.bl b) H
theorem call_isEDT {X : Cx} {a : Addr} {cls : Value} {d : Option Addr} {oe : Obj} {pn : List (Addr × Obj)} (hz : Zc cls d oe) (hf : ∃ vs, oe.data = .fields vs) :
    CallR (X.suite a ((a, oe) :: pn)) (.builtin "isinstance") (rIsEDT X.K cls d a) := by
  intro pins s σ H xs us Q I r h
  obtain ⟨D, dd, tp, cs, ws, b, fs, rfl, rfl, C, rfl, hT, k, hdd, e, q⟩ := h
  obtain ⟨u1, u2, rfl, r1, r2⟩ := vals2 r
  obtain rfl : u1 = Value.ref a := r1
  obtain rfl : u2 = Value.ref tp := r2
  obtain ⟨_, its, rv, o, h1, h2, n, h3⟩ := (show ObjOk X.prog X.w H s.heap tp (.tup cs) from I.hok tp _ hT)
  have e3 := ClsV.all k rv
  subst e3
  obtain ⟨oc, od0, dt, sl⟩ := o
  simp only at h2 h3
  subst h2 h3
  have hp := (I.pin (a, oe) (List.mem_append_left _ List.mem_cons_self)).1
  obtain ⟨mA, hns, _⟩ := (show ObjOk X.prog X.w H s.heap dd (.xd fs) from I.hok dd _ hdd)
  obtain ⟨od, ho, _⟩ := lookIn_ns hns
  obtain ⟨vs, hv⟩ := hf
  have J : PySem.W.InstAt s.heap a oe D (some od) := ⟨hp, hz.1, by unfold PySem.W.notCls; rw [hv] <;> rfl, by rw [hz.2]; exact ho⟩
  have hc : (PySem.W.clsIn X.K D).isSome = true := by
    have z := C.hd
    unfold PySem.W.hasDictIn at z
    cases q : PySem.W.clsIn X.K D with
    | none => rw [q] at z; cases z
    | some y => rfl
  exact PySem.W.kia_tup (PySem.W.kitx_exc hc C.hg C.hk C.hs C.ha C.hn C.ht C.hm) I.kIn J h1 e (fun z => nomatch z) fun tk => ⟨.bl b, H, I.tok tk, rfl, q⟩
end Ta

set_option Elab.async false
set_option linter.all false
set_option maxRecDepth 100000
set_option maxHeartbeats 2000000
/-! try with several clauses, each with a name; the errors' context is None -/
namespace Tn
open PySem PySem.Spec PyProof.Rows L2
abbrev Cl := Value × Nat × (Addr → Value → Option Addr → TS)
def wMany (K : PySem.W.Frag) (Wout : WX) (D : Ends) : List Cl → WX
  | [] => Wout
  | (c, i, ts) :: r => fun cls d σ H => ∃ b, PySem.W.exmOne K cls c = some b ∧ (b = true → ∀ a, H a = none → ts a cls d { nx := fun σ' H' => D.nx (σ'.set i none) H', rt := D.rt, bk := fun σ' H' => D.bk (σ'.set i none) H', ct := fun σ' H' => D.ct (σ'.set i none) H' } (σ.set i (some (.ref a))) H) ∧
    (b = false → wMany K Wout D r cls d σ H)
inductive HdsOk (X : Cx) : List ExceptHandler → List Cl → Prop
  | nil : HdsOk X [] []
  | cons {x n : Str} {c : Value} {i : Nat} {ts : Addr → Value → Option Addr → TS} {b₀ : Stmt} {suite : List Stmt} {np pos' : Pos} {hds : List ExceptHandler} {l : List Cl} (hi : X.N[i]? = some n) (hln : X.env.kindOf n = some .local) (hc : Names X x c)
      (hsu : ∀ (a : Addr) (oe : Obj) (cls : Value) (d : Option Addr) (pn : List (Addr × Obj)), L2N.Zn cls d oe → (∃ vs, oe.data = .fields vs) → PSs (X.suite a ((a, oe) :: pn)) (b₀ :: suite) (ts a cls d)) (r : HdsOk X hds l) :
      HdsOk X (.ExceptHandler (some (.Name x np)) (some n) (b₀ :: suite) pos' :: hds) ((c, i, ts) :: l)
section
variable {X : Cx} {body : List Stmt} {h₀ : ExceptHandler} {hds : List ExceptHandler} {l : List Cl} {pos : Pos} {tb : WX → TS} {Wout : WX}
theorem ps_try_manyA (hs : X.stack = X.env :: X.outer) (hf : X.env.frame = some X.env.locals) (hN : X.N.Nodup) (tk : L2N.Takes X Wout)
    (hb : ∀ (W : WX) (pn : List (Addr × Obj)) (xe : Value → Shared → Prop), L2N.Takes (X.tr pn xe) W → PassesOwn (model X.prog X.w) X.A X.env xe → PSs (X.tr pn xe) body (tb W))
    (hh : HdsOk X (h₀ :: hds) l) : PS X (.Try body (h₀ :: hds) [] [] pos) (fun D σ H => tb (wMany X.K Wout D l) D σ H) := by
  refine ⟨fun pins s σ H D I h => ?_⟩
  have ok := I.ok
  have hfr : X.A.frames = some (X.env :: X.outer) := by rw [ok.frames, hs]
  refine wpAny_Try_except ?_
  refine wpAny_mono ((hb (wMany X.K Wout D l) (X.pn ++ pins) (fun e s₁ => wpAny (model X.prog X.w) X.A (noteFrame e X.env) (fun _ s₂ => wpAny (model X.prog X.w) X.A (setFlight e none) (fun _ s₃ =>
    wpAny (model X.prog X.w) X.A (handleBy e X.env (h₀ :: hds)) (SP X pins D) X.xe s₃) X.xe s₂) X.xe s₁) (fun u s' xx => ?_) PassesOwn.looking).run [] s σ H D (I.toTry _) h) (fun f s1 hsp => ?_) (fun e s1 he => he)
  · obtain ⟨a, B, sI, pins', σ', H', cls, d, rfl, J', nb, up, sky, na, os, ag, w⟩ := xx
    have J : Inv X pins σ' H' sI := J'.ofTry ok
    have sky' : Sky B (X.env :: X.outer) a (L2N.Zn cls d) X.env.locals s'.heap := by rw [← hs]; exact sky
    show wpAny (model X.prog X.w) X.A (noteFrame (.ref a) X.env) _ _ _
    refine L2N.Sky.land L2N.Zn.steady hfr hf sky' fun h3 fl3 up3 => ?_
    have J3 : Inv X pins σ' H' { s' with heap := h3 } := J.landed nb fl3.1 (up.trans up3) os ag
    obtain ⟨oe3, vs3, he3, hz3, hd3⟩ := fl3.there
    have notFr : ∀ {h : Heap} {o : Obj} {vs : Array Value}, h.FunFrames B (X.env :: X.outer) → h.get? a = some o → o.data = .fields vs → a ∉ frs (X.env :: X.outer) := fun {h o vs} ff e dd hm => by
      obtain ⟨_, o', e', hnf⟩ := ff.mem hm
      rw [e] at e'; cases e'
      exact hnf _ dd
    have nfr := notFr fl3.2.2.1 he3 hd3
    have nL : a ≠ X.env.locals := fun z => nfr (List.mem_filterMap.mpr ⟨X.env, List.mem_cons_self, by rw [hf, z]⟩)
    have nF : a ∉ X.fs := fun hm => by
      obtain ⟨e, he, q⟩ := List.mem_filterMap.mp hm
      exact nfr (List.mem_filterMap.mpr ⟨e, List.mem_cons_of_mem _ he, q⟩)
    have S3 := J3.suite he3 hd3 na nL nF
    have go : ∀ {hds' : List ExceptHandler} {l' : List Cl}, HdsOk X hds' l' → wMany X.K Wout D l' cls d σ' H' →
        wpAny (model X.prog X.w) X.A (handleBy (.ref a) X.env hds') (SP X pins D) X.xe { s' with heap := h3 } := by
      intro hds' l' hk
      induction hk with
      | nil =>
        intro w
        refine wpAny_handleBy_nil ?_
        obtain ⟨k1, k2, k3, oe, vs, T, oT, ts', he, hz, hd, h1, hr⟩ := id fl3
        unfold PySem.passOn
        refine wpAny_bind (wpAny_field he hd h1 ?_)
        rw [if_neg (show ¬ ((Value.ref T == Value.none) = true) from by simp)]
        have fin : wpAny (model X.prog X.w) X.A (setFlight (.ref a) X.env.frame) (fun _ s4 => wpAny (model X.prog X.w) X.A (throw (.ref a) : Sem Flow) (SP X pins D) X.xe s4) X.xe { s' with heap := h3 } := by
          rw [hf]
          refine HandSPX.setFlight_upZ fl3 fun h4 hh4 up4 => wpAny_throw (tk _ _ ?_)
          exact ⟨a, B, sI, pins, σ', H', cls, d, rfl, J, nb, (up.trans up3).trans up4, .inr (.inr (by rw [hs]; exact hh4)), na, os, ag, w⟩
        first
          | exact wpAny_bind (wpAny_pure (wpAny_bind fin))
          | exact wpAny_bind fin
      | @cons x n c i ts b₀ suite np pos' hds2 l2 hi hln hc hsu r ih =>
        intro w
        have hloc : Loc X.env.scope n := .inl hln
        obtain ⟨b, hb1, hyes, hno⟩ := w
        refine wpAny_handleBy_cons (codeAny_handlers_test ?_) (by intro q; cases q)
        have LT : PySem.W.Looks (model X.prog X.w) h3 (typeOf (.ref a)) cls := fun A Q E s k q => wpAny_typeOf_ref (k _ _ he3) (by rw [hz3.1]; exact q)
        have LM := PySem.W.exm_one (M := model X.prog X.w) (J3.kIn) LT hb1
        have test : ∀ {Q : Value → Shared → Prop} {E : Value → Shared → Prop}, Q c { s' with heap := h3 } → wpAny (model X.prog X.w) (X.A.mark (some (.ref a))) (eval (.Name x np) X.env) Q E { s' with heap := h3 } := fun {Q E} q => by
          obtain ⟨hg, hdbg, hm | ⟨hm, hv, hnn⟩⟩ := hc
          · exact ld_glob (X := X.suite a ((a, oe3) :: (X.pn ++ pins))) S3 hg hm q hdbg
          · exact ld_blt (X := X.suite a ((a, oe3) :: (X.pn ++ pins))) S3 hg hm hv q hnn hdbg
        refine test (LM.here ?_)
        cases b with
        | true =>
          refine codeAny_handlers_suite_as ?_
          refine HandSPX.lands_againZ fl3 fun h4 fl4 up4 => ?_
          have J4 : Inv X pins σ' H' { s' with heap := h4 } := J.landed nb fl4.1 ((up.trans up3).trans up4) os ag
          obtain ⟨oe4, vs4, he4, hz4, hd4⟩ := fl4.there
          have S4 := J4.suite he4 hd4 na nL nF
          refine store_ok (X := X.suite a ((a, oe4) :: (X.pn ++ pins))) (v := .ref a) S4 hN hi hloc rfl (fun s5 S5 => ?_) (.inr hln)
          refine wpAny_mono ((hsu a oe4 cls d (X.pn ++ pins) hz4 ⟨_, hd4⟩).run [] s5 _ H' _ S5 (hyes rfl a na)) (fun f s6 hsp => ?_) (fun _ _ z => False.elim z)
          have end_ : ∀ {σ6 : L2.St} {H6 : Hp} {Q : Shared → Prop}, Inv (X.suite a ((a, oe4) :: (X.pn ++ pins))) [] σ6 H6 s6 → (∀ s7, Inv X pins (σ6.set i none) H6 s7 → Q s7) →
              wpAny (model X.prog X.w) X.A (do bindName X.env n .none; unbindBehindTheSuite X.env n pos') (fun _ s7 => Q s7) X.xe s6 := fun {σ6 H6 Q} S6 hq => gone_ok (S6.unsuite ok) hN hi hln hq
          cases f with
          | next =>
            obtain ⟨σ6, H6, S6, q6⟩ := hsp
            exact end_ S6 fun s7 J7 => ⟨_, _, J7, q6⟩
          | brk =>
            obtain ⟨σ6, H6, S6, q6⟩ := hsp
            exact end_ S6 fun s7 J7 => ⟨_, _, J7, q6⟩
          | cont =>
            obtain ⟨σ6, H6, S6, q6⟩ := hsp
            exact end_ S6 fun s7 J7 => ⟨_, _, J7, q6⟩
          | ret u =>
            obtain ⟨v6, σ6, H6, S6, r6, q6⟩ := hsp
            exact end_ S6 fun s7 J7 => ⟨_, _, _, J7, r6, q6⟩
        | false =>
          show wpAny _ X.A (handleBy (.ref a) X.env hds2) _ _ _
          exact ih (hno rfl)
    exact go hh w
  · cases f with
    | next =>
      obtain ⟨σ', H', J', q⟩ := hsp
      exact wpAny_execs_nil ⟨σ', H', J'.ofTry ok, q⟩
    | brk =>
      obtain ⟨σ', H', J', q⟩ := hsp
      exact ⟨σ', H', J'.ofTry ok, q⟩
    | cont =>
      obtain ⟨σ', H', J', q⟩ := hsp
      exact ⟨σ', H', J'.ofTry ok, q⟩
    | ret u =>
      obtain ⟨v, σ', H', J', r, q⟩ := hsp
      exact ⟨v, σ', H', J'.ofTry ok, r, q⟩
end
end Tn

set_option Elab.async false
set_option linter.all false
set_option maxRecDepth 100000
set_option maxHeartbeats 40000000
namespace Lw
open PySem PySem.Spec PyProof.Rows L2
abbrev sInt : Stmt := top 26
abbrev sTold : Stmt := top 29
section
variable {P : Program} {w : World} {K : PySem.W.Frag} {mg : Str → Option Value} {base : Heap}
/-! what the making of a target tells -/
theorem dp_strs {H : Hp} : ∀ ks : List Str, DpAll K H (ks.map V.str) (ks.map PyData.str)
  | [] => .nil
  | z :: r => .cons (.str z) (dp_strs r)
def toldR (nm : V) (xs : List V) (y : Hv) : List V :=
  if badName nm = true then [.str "target", .int (-1)] else
    match badAt xs with
    | some i => [.str "target", .int (i : Nat)]
    | none => match wrongs y with
      | z :: _ => [.str "habit", .str z]
      | [] => [y.pr, y.la, y.go, y.sh]
theorem told_name {nm : V} {xs : List V} {y : Hv} (h : badName nm = true) : toldR nm xs y = [.str "target", .int (-1)] := by
  unfold toldR
  rw [if_pos h]
theorem told_col {nm : V} {xs : List V} {y : Hv} {i : Nat} (h : badName nm = false) (h2 : badAt xs = some i) : toldR nm xs y = [.str "target", .int (i : Nat)] := by
  unfold toldR
  rw [if_neg (by rw [h]; exact Bool.false_ne_true), h2]
theorem told_hab {nm : V} {xs : List V} {y : Hv} {z : Str} {r : List Str} (h : badName nm = false) (h2 : badAt xs = none) (h3 : wrongs y = z :: r) : toldR nm xs y = [.str "habit", .str z] := by
  unfold toldR
  rw [if_neg (by rw [h]; exact Bool.false_ne_true), h2, h3]
theorem told_fine {nm : V} {xs : List V} {y : Hv} (h : badName nm = false) (h2 : badAt xs = none) (h3 : wrongs y = []) : toldR nm xs y = [y.pr, y.la, y.go, y.sh] := by
  unfold toldR
  rw [if_neg (by rw [h]; exact Bool.false_ne_true), h2, h3]
theorem bad_all {xs : List V} (h : badAt xs = none) : ∀ j, j < xs.length → badC xs j = false := fun j hj => by
  unfold badAt at h
  rw [List.find?_eq_none] at h
  have := h j (List.mem_range.mpr hj)
  simpa using this
theorem good_all {xs : List V} (h : badAt xs = none) : ∃ zs : List Str, xs = zs.map V.str ∧ ∀ z ∈ zs, IsWord z := by
  have e : ∀ v ∈ xs, ∃ z, v = .str z ∧ IsWord z := fun v hv => by
    obtain ⟨j, hj⟩ := List.getElem?_of_mem hv
    obtain ⟨z, e, hz, _⟩ := good_str hj (bad_all h j (List.getElem?_eq_some_iff.mp hj).1)
    exact ⟨z, e, hz⟩
  clear h
  induction xs with
  | nil => exact ⟨[], rfl, fun _ h => (List.not_mem_nil h).elim⟩
  | cons v r ih =>
    obtain ⟨z, rfl, hz⟩ := e v List.mem_cons_self
    obtain ⟨zs, rfl, hzs⟩ := ih fun w hw => e w (List.mem_cons_of_mem _ hw)
    refine ⟨z :: zs, rfl, fun y hy => ?_⟩
    rcases List.mem_cons.mp hy with rfl | hy
    · exact hz
    · exact hzs y hy
theorem name_word {nm : V} (h : badName nm = false) : ∃ z, nm = .str z ∧ IsWord z := by
  cases nm with
  | str z =>
    have h : (!isWordB z || decide (z ∈ (["table", "key"] : List Str))) = false := h
    rw [Bool.or_eq_false_iff] at h
    exact ⟨z, rfl, (isWordB_iff z).mp (by simpa using h.1)⟩
  | _ => cases h
def spTold15 : Sp := fun vs H Q _ => ∃ (a c h : Addr) (nm : V) (xs : List V) (b : Bool) (y : Hv), vs = [nm, .ref c, .ref h] ∧ PlB b H c xs ∧ xs.length ≤ 1000 ∧ H h = some (.lst [y.pr, y.la, y.go, y.sh]) ∧ Nm a H nm ∧ (∀ v ∈ xs, Nm a H v) ∧ PlH a H y ∧
  ∀ t G, Same H G → H t = none → G t = some (.tup (toldR nm xs y)) → Q (.ref t) G
structure TxtT (K : PySem.W.Frag) (mg : Str → Option Value) (CT CB CN CE : Addr) : Prop where
  isi : mg "isinstance" = none
  int : mg "int" = none
  bool : mg "bool" = none
  list : mg "list" = none
  tuple : mg "tuple" = none
  gT : mg "BadTarget" = some (.ref CT)
  gB : mg "BadHabit" = some (.ref CB)
  gN : mg "BadNetwork" = some (.ref CN)
  gE : mg "CopiesError" = some (.ref CE)
  exc : ExcC K CT
  xf : XfC K CT
  xfB : XfC K CB
  noA : PySem.W.findIn K (.ref CT) "at" = some none
  noH : PySem.W.findIn K (.ref CB) "habit" = some none
  exT : PySem.W.exmOne K (.ref CT) (.ref CT) = some true
  exB : PySem.W.exmOne K (.ref CB) (.ref CT) = some false
  exBB : PySem.W.exmOne K (.ref CB) (.ref CB) = some true
  kA : PySem.W.kitAny K (.ref CT) [.ref CB, .ref CN] = some false
  kE : PySem.W.kitOne K (.ref CT) (.ref CE) = some true
theorem scInt : FnScope ["value"] ["value"] (defScope sInt) := ⟨rfl, rfl, rfl, by decide +kernel, rfl, by decide +kernel, by decide +kernel⟩
theorem ok_intH {CT CB CN CE f : Addr} {fd : FuncData} (F : FnP K "_law_integer" sInt f fd) (T : TxtT K mg CT CB CN CE) : L2H.FnH P w K mg base CX0 1 f fd ["value"] (spIsInteger K) := by
  refine okH F scInt (fun vs H Q E h => ?_) (fun cdv A outer s H vs Q E p hot hr h => ?_)
  · obtain ⟨v, b, rfl, _⟩ := h
    rfl
  · obtain ⟨v, b, rfl, hv, k⟩ := h
    refine ⟨_, pss_one (ps_ret (pe_and (pe_callB call_isi (by rfl) T.isi (by decide +kernel) (pa_cons (pv 0) (pa_cons (pe_bltn (v := .ty "int") (by rfl) T.int (by decide +kernel) rfl) pa_nil)))
      (pe_one (pe_not (pe_callB call_isi (by rfl) T.isi (by decide +kernel) (pa_cons (pv 0) (pa_cons (pe_bltn (v := .ty "bool") (by rfl) T.bool (by decide +kernel) rfl) pa_nil))))))), ?_⟩
    rcases hv with ⟨rfl, i, rfl⟩ | ⟨rfl, ⟨c, rfl⟩ | ⟨t, ht, kt⟩⟩
    · exact ⟨_, rfl, _, _, _, _, true, rfl, .ty _, ty_int i, kit_ty (by decide +kernel), true, rfl, iteT ⟨_, rfl, _, _, _, _, false, rfl, .ty _, ty_int i, kit_ty (by decide +kernel), false, rfl, k⟩⟩
    · exact ⟨_, rfl, _, _, _, _, true, rfl, .ty _, ty_bl c, kit_ty (by decide +kernel), true, rfl, iteT ⟨_, rfl, _, _, _, _, true, rfl, .ty _, ty_bl c, kit_ty (by decide +kernel), true, rfl, k⟩⟩
    · exact ⟨_, rfl, _, _, _, _, false, rfl, .ty _, ht, kit_ty kt, false, rfl, iteF k⟩
theorem takesN {X : Cx} : L2N.Takes X (fun _ _ _ _ => False) := fun u s' h => by
  obtain ⟨_, _, _, _, _, _, _, _, _, _, _, _, _, _, _, _, z⟩ := h
  exact z.elim
theorem hotS {X : Cx} {a : Addr} {oe : Obj} {cls : Value} {d : Option Addr} {pn : List (Addr × Obj)} (hz : L2N.Zn cls d oe) (hf : ∃ vs, oe.data = .fields vs) : L2H.HotC (X.suite a ((a, oe) :: pn)) := by
  obtain ⟨vs, hv⟩ := hf
  exact ⟨(a, oe), ⟨rfl, vs, hv, hz.2.2 vs hv⟩, List.mem_cons_self⟩
abbrev nTold : List Str := ["name", "columns", "habits", "target", "e"]
theorem scTold : FnScope nTold ["name", "columns", "habits"] (defScope sTold) := ⟨rfl, rfl, rfl, by decide +kernel, rfl, by decide +kernel, by decide +kernel⟩
def gv4 : List V → List V → List V := fun vs zs => vs ++ (zs ++ [])
/-- Target(name, columns, ..): what its own __init__ is asked -/
theorem tgt_new {CG CH CB CT c a : Addr} {E : XK} {R : Addr → Hp → Prop} {H : Hp} {ks : List Str} {gv : List V → List V → List V} {nm : V} {xs zs : List V} {b : Bool} {y : Hv} (lz : zs.length = ks.length) (hc : PlB b H c xs) (lx : xs.length ≤ 1000) (hnm : Nm a H nm) (hxs : ∀ v ∈ xs, Nm a H v) (hgv : ∀ q, gv [.ref q] zs = [.ref q, y.pr, y.la, y.go, y.sh]) (py : PlH a H y)
    (kN : badName nm = true → ∀ d G, H d = none → Same H G → G d = some (.xd (atF (-1))) → E (.ref CT) (some d) G)
    (kC : badName nm = false → ∀ i, badAt xs = some i → ∀ d G, H d = none → Same H G → G d = some (.xd (atF (i : Nat))) → E (.ref CT) (some d) G)
    (kH : badName nm = false → badAt xs = none → ∀ z r, wrongs y = z :: r → ∀ d G, H d = none → Same H G → G d = some (.xd (habF z)) → E (.ref CB) (some d) G)
    (k : badName nm = false → badAt xs = none → wrongs y = [] → ∀ q G, Same H G → H q = none → TgtAt CG CH G q nm xs y → R q G) :
    ∀ x dx, H x = none → H dx = none → dx ≠ x → ∀ d, upd (upd H dx (.own x)) x (.ins CG dx []) d = none → spTgt CG CH CB CT ks gv ((.ref x :: [nm, .ref c]) ++ [.ref d]) (upd (upd (upd H dx (.own x)) x (.ins CG dx [])) d (.dK ((ks.map Sum.inr).zip zs))) (fun v H2 => v = .non ∧ R x H2) E := by
  intro x dx nx ndx ne d nd
  have sI := same_ins3 (o := .own x) (u := .ins CG dx []) nx ndx
  have sD := Lw.Same.new (o := .dK ((ks.map Sum.inr).zip zs)) (Same.refl (upd (upd H dx (.own x)) x (.ins CG dx []))) nd
  have s := sI.trans sD
  have dx2 : d ≠ x := fun e => by rw [e, upd_same] at nd; cases nd
  have kS : ∀ {G : Hp}, Keep x (upd (upd (upd H dx (.own x)) x (.ins CG dx [])) d (.dK ((ks.map Sum.inr).zip zs))) G → Same H G := fun kG b o h => kG _ _ (ne_of_none h nx) (s _ _ h)
  refine ⟨x, dx, a, c, d, nm, xs, zs, b, y, rfl, ?_, hc.ne nx, upd_same, lz, hc.same s, lx, hnm.same s, fun v hv => (hxs v hv).same s, hgv, py.same s, fun h d2 G n2 s2 g => kN h d2 G (none_of_same s n2) (s.trans s2) g, fun h i hi d2 G n2 s2 g => kC h i hi d2 G (none_of_same s n2) (s.trans s2) g, fun h h2 z r e d2 G n2 k2 g => kH h h2 z r e d2 G (none_of_same s n2) (kS k2) g, fun h h2 e G k2 t => ⟨rfl, k h h2 e x G (kS k2) nx t⟩⟩
  rw [upd_ne dx2.symm]
  exact upd_same
theorem ok_told {CG CH CT CB CN CE f fi fG : Addr} {fd fdi : FuncData} (F : FnP K "_law_told" sTold f fd) (T : TxtT K mg CT CB CN CE) (TG : Cls K CG ∧ NoAttr K CG "name" ∧ NoAttr K CG "columns" ∧ NoAttr K CG "habits") (TH : TxtHb K CH) (gG : mg "Target" = some (.ref CG)) (MG : Mk K CG fG) (FG : Kw.FnKw P w K mg base (L2N.CX P w) 6 fG ["present", "lacking", "gone", "shared"] (spTgt CG CH CB CT ["present", "lacking", "gone", "shared"] gv4))
    (gi : mg "_law_integer" = some (.ref fi)) (ki : PySem.W.keepIn K (.ref fi) = true) (Fi : L2H.FnH P w K mg base CX0 1 fi fdi ["value"] (spIsInteger K)) (bi : Binds K fdi ["value"] []) :
    FnOk P w K mg base CX0 8 f fd ["name", "columns", "habits"] spTold15 := by
  refine F.ok scTold (fun vs H Q E h => ?_) (fun cdv A outer s0 H vs Q E hr h => ?_)
  · obtain ⟨a, c, h, nm, xs, b, y, rfl, _⟩ := h
    rfl
  · obtain ⟨a, c, h, nm, xs, b, y, rfl, hc, lx, hh, hnm, hxs, py, k⟩ := h
    have nd := scTold.nd
    have hr1 : Room 1 _ := hr.mono (by decide)
    obtain ⟨clG, n1, n2, n3⟩ := TG
    refine ⟨_, PSs.nox (pss_cons (Tn.ps_try_manyA (tb := fun W => tAsg (Kw.tMakeKw CG 2 ["present", "lacking", "gone", "shared"] (spTgt CG CH CB CT ["present", "lacking", "gone", "shared"] gv4) (WL _ W) (tCons (tVar 0) (tCons (tVar 1) tNil)) (tCons (tOp (rIxL K) (tVar 2) (tC (.int 0))) (tCons (tOp (rIxL K) (tVar 2) (tC (.int 1))) (tCons (tOp (rIxL K) (tVar 2) (tC (.int 2))) (tCons (tOp (rIxL K) (tVar 2) (tC (.int 3))) tNil))))) (gName 3))
        (l := [(.ref CT, 4, fun a cls d => tSeq (tIfS (tOr (tB (tCB (Ta.rIsEDT K cls d a) (tCons (tVar 4) (tCons (tTup (tCons (tC (.ref CB)) (tCons (tC (.ref CN)) tNil))) tNil)))) (tOr (tNot (tB (tCB (rIsED K cls d a) (tCons (tVar 4) (tCons (tC (.ref CE)) tNil))))) (tNot (tB (tCallS (spIsInteger K) (fun _ => E0) (tCons (tXf a cls d CT "at" (tVar 4)) tNil))))))
            (tRet (tC (.str "wrong"))) tNext) (tRet (tTup (tCons (tC (.str "target")) (tCons (tXf a cls d CT "at" (tVar 4)) tNil))))),
          (.ref CB, 4, fun a cls d => tRet (tTup (tCons (tC (.str "habit")) (tCons (tXf a cls d CB "habit" (tVar 4)) tNil))))])
        (Wout := fun _ _ _ _ => False) rfl rfl nd takesN
        (fun W pn xe tk _ => pss_one (ps_set (i := 3) nd rfl (Or.inl rfl) (Kw.pe_makeKw MG FG hr (by rfl) gG (passL tk) (by exact (pa_cons (pv 0) (pa_cons (pv 1) pa_nil))) (by exact (pk_cons (pe_ix (r := rIxL K) (by exact ix_list) (pv 2) pe_int (fun _ _ => rfl)) (pk_cons (pe_ix (r := rIxL K) (by exact ix_list) (pv 2) pe_int (fun _ _ => rfl)) (pk_cons (pe_ix (r := rIxL K) (by exact ix_list) (pv 2) pe_int (fun _ _ => rfl)) (pk_cons (pe_ix (r := rIxL K) (by exact ix_list) (pv 2) pe_int (fun _ _ => rfl)) pk_nil))))))))
        (.cons rfl rfl ⟨rfl, by decide, Or.inl T.gT⟩ (fun a oe cls d pn hz hf => pss_cons (ps_if (PW.pt (pw_or (pt_val (pe_callB (Ta.call_isEDT hz.zc hf) (by rfl) T.isi (by decide +kernel) (pa_cons (pv 4) (pa_cons (pe_tup (pa_cons (pe_glob (v := .ref CB) rfl T.gB rfl) (pa_cons (pe_glob (v := .ref CN) rfl T.gN rfl) pa_nil))) pa_nil))))
            (pw_or (pt_not (pt_val (pe_callB (call_isED hz.zc hf) (by rfl) T.isi (by decide +kernel) (pa_cons (pv 4) (pa_cons (pe_glob (v := .ref CE) rfl T.gE rfl) pa_nil)))))
              (pw_or1 (pt_not (pt_val (L2H.pe_callH Fi ⟨hr1.dp, hr1.un⟩ (hotS hz hf) rfl gi ki bi (fun σ => fun _ _ _ _ _ _ z => z.elim) (pa_cons (pe_xf T.xf T.noA hz.zc hf (pv 4)) pa_nil))))))))
            (pss_one (ps_ret pe_str)) pss_nil) (pss_one (ps_ret (pe_tup (pa_cons pe_str (pa_cons (pe_xf T.xf T.noA hz.zc hf (pv 4)) pa_nil))))))
          (.cons rfl rfl ⟨rfl, by decide, Or.inl T.gB⟩ (fun a oe cls d pn hz hf => pss_one (ps_ret (pe_tup (pa_cons pe_str (pa_cons (pe_xf T.xfB T.noH hz.zc hf (pv 4)) pa_nil))))) .nil)))
      (pss_cons (ps_set (i := 2) nd rfl (Or.inl rfl) (pe_fld (pv 3) (by rfl)))
      (pss_cons (ps_if (PW.pt (pw_or (pt_cmpR op_ne (pe_fld (pv 3) (by rfl)) (pv 0) (nomark _)) (pw_or (pt_not (pt_val (pe_callB call_isi (by rfl) T.isi (by decide +kernel) (pa_cons (pe_fld (pv 3) (by rfl)) (pa_cons (pe_bltn (v := .ty "tuple") (by rfl) T.tuple (by decide +kernel) rfl) pa_nil)))))
          (pw_or1 (pt_cmpR (r := rNeD K) (by exact op_neD hr.units) (pe_callTy call_list_of (by rfl) T.list (by decide +kernel) (pa_cons (pe_fld (pv 3) (by rfl)) pa_nil)) (pe_callTy call_list_of (by rfl) T.list (by decide +kernel) (pa_cons (pv 1) pa_nil)) (nomark _)))))) (pss_one (ps_ret pe_str)) pss_nil)
      (pss_one (ps_ret (pe_tup (pa_cons (pe_fld (pv 2) (by rfl)) (pa_cons (pe_fld (pv 2) (by rfl)) (pa_cons (pe_fld (pv 2) (by rfl)) (pa_cons (pe_fld (pv 2) (by rfl)) pa_nil)))))))))), ?_⟩
    have hT : ∀ {W : WX} {D : Ends} {σ0 : L2.St} (i : Int) (d2 : Addr) (G : Hp), Same H G → G d2 = some (.xd (atF i)) → toldR nm xs y = [.str "target", .int i] → D.rt = Q → ∀ σ' : L2.St, σ'.length = 5 → ∀ z : Addr,
        tSeq (tIfS (tOr (tB (tCB (Ta.rIsEDT K (.ref CT) (some d2) z) (tCons (tVar 4) (tCons (tTup (tCons (tC (.ref CB)) (tCons (tC (.ref CN)) tNil))) tNil)))) (tOr (tNot (tB (tCB (rIsED K (.ref CT) (some d2) z) (tCons (tVar 4) (tCons (tC (.ref CE)) tNil))))) (tNot (tB (tCallS (spIsInteger K) (fun _ => E0) (tCons (tXf z (.ref CT) (some d2) CT "at" (tVar 4)) tNil))))))
            (tRet (tC (.str "wrong"))) tNext) (tRet (tTup (tCons (tC (.str "target")) (tCons (tXf z (.ref CT) (some d2) CT "at" (tVar 4)) tNil)))) D (σ'.set 4 (some (.ref z))) G := by
      intro W D σ0 i d2 G sG hG eR eQ σ' hσ z
      have h1 : (σ'.set 4 (some (.ref z)))[4]? = some (some (.ref z)) := List.getElem?_set_self (by rw [hσ]; decide)
      refine sq_if1 (fun b' H' => Same H H' ∧ H' d2 = some (.xd (atF i)) ∧ b' = false) (fun Q' q => ?_) ?_ ?_
      · refine ⟨_, h1, (by show 2 ≤ sizeLine; decide), fun tp ntp => ?_⟩
        have sT := Lw.Same.new (o := .tup [.ref CB, .ref CN]) (Same.refl G) ntp
        have g2 := sT _ _ hG
        refine ⟨CT, d2, tp, _, _, false, _, rfl, rfl, T.exc, rfl, upd_same, .cons (.own CB) (.cons (.own CN) .nil), g2, T.kA, false, rfl, iteF ?_⟩
        refine ⟨_, h1, CT, d2, .ref CE, .ref CE, true, _, rfl, rfl, T.exc, rfl, fun u r => r, g2, T.kE, true, rfl, iteF ?_⟩
        exact ⟨_, h1, rfl, rfl, d2, _, .int i, rfl, g2, List.lookup_cons_self, _, true, rfl, .inl ⟨rfl, i, rfl⟩, true, rfl, q _ _ ⟨sG.trans sT, g2, rfl⟩⟩
      · rintro _ ⟨_, _, e⟩
        cases e
      · rintro G2 ⟨s2, g2, _⟩
        refine ⟨_, h1, rfl, rfl, d2, _, .int i, rfl, g2, List.lookup_cons_self, (by show 2 ≤ sizeLine; decide), fun t nt => ?_⟩
        rw [eQ]
        exact k t _ (Lw.Same.new s2 nt) (none_of_same s2 nt) (by rw [eR]; exact upd_same)
    refine ⟨_, rfl, _, rfl, _, rfl, h, _, 0, y.pr, rfl, rfl, SqL.of hh, rfl, _, rfl, h, _, 1, y.la, rfl, rfl, SqL.of hh, rfl, _, rfl, h, _, 2, y.go, rfl, rfl, SqL.of hh, rfl, _, rfl, h, _, 3, y.sh, rfl, rfl, SqL.of hh, rfl, rfl, rfl, ?_⟩
    refine tgt_new (a := a) rfl hc lx hnm hxs (fun q => rfl) py (fun e d2 G nd2 s g σ' hσ => ?_) (fun e i hi d2 G nd2 s g σ' hσ => ?_) (fun e e2 z r ew d2 G nd2 s g σ' hσ => ?_) (fun e e2 ew q G s nq tg => ?_)
    · exact ⟨true, T.exT, fun _ z nz => hT (W := fun _ _ _ _ => False) (σ0 := σ') (-1) d2 G s g (told_name e) rfl σ' hσ z, fun e => Bool.noConfusion e⟩
    · exact ⟨true, T.exT, fun _ z nz => hT (W := fun _ _ _ _ => False) (σ0 := σ') i d2 G s g (told_col e hi) rfl σ' hσ z, fun e => Bool.noConfusion e⟩
    · refine ⟨false, T.exB, (fun e => Bool.noConfusion e), fun _ => ⟨true, T.exBB, fun _ p np => ?_, fun e => Bool.noConfusion e⟩⟩
      have h1 : (σ'.set 4 (some (.ref p)))[4]? = some (some (.ref p)) := List.getElem?_set_self (by rw [hσ]; show 4 < 5; decide)
      refine ⟨_, h1, rfl, rfl, d2, _, .str z, rfl, g, List.lookup_cons_self, (by show 2 ≤ sizeLine; decide), fun t nt => ?_⟩
      exact k t _ (Lw.Same.new s nt) (none_of_same s nt) (by rw [told_hab e e2 ew]; exact upd_same)
    · obtain ⟨dx, t0, hb, hq, ht0, dxh, hhb⟩ := tg
      obtain ⟨z0, rfl, hz0⟩ := name_word e
      obtain ⟨zs, rfl, hzs⟩ := good_all e2
      dsimp only [gName]
      refine sq_set (fun v G2 => G = G2 ∧ v = .ref hb) (fun Q' q' => ⟨_, rfl, q, CG, dx, _, _, rfl, hq, clG, n3, rfl, q' _ _ ⟨rfl, rfl⟩⟩) ?_
      rintro _ _ ⟨rfl, rfl⟩
      refine sq_if1 (fun b' G2 => Same G G2 ∧ b' = false) (fun Q' q' => ?_) ?_ ?_
      · refine ⟨_, rfl, q, CG, dx, _, _, rfl, hq, clG, n1, rfl, _, rfl, rfl, _, rfl, itFb (by rw [decide_eq_true rfl]; rfl) ?_⟩
        refine ⟨_, rfl, q, CG, dx, _, _, rfl, hq, clG, n2, rfl, _, _, _, _, true, rfl, .ty _, .base (.tup ht0), kit_ty (by decide +kernel), true, rfl, iteF ?_⟩
        refine ⟨_, rfl, q, CG, dx, _, _, rfl, hq, clG, n2, rfl, t0, _, rfl, .inr (SqT.of ht0), fun l1 nl1 => ?_⟩
        have s1 := Lw.Same.new (o := .lst (zs.map V.str)) (Same.refl G) nl1
        refine ⟨_, rfl, c, zs.map V.str, rfl, ?_, fun l2 nl2 => ?_⟩
        · have := hc.same (s.trans s1)
          cases b with
          | true => exact .inl (SqL.of this)
          | false => exact .inr (SqT.of this)
        have s2 := Lw.Same.new (o := .lst (zs.map V.str)) (Same.refl _) nl2
        refine ⟨.list (zs.map PyData.str), .list (zs.map PyData.str), .lst (SqL.of (s2 _ _ upd_same)) (dp_strs _), .lst (SqL.of upd_same) (dp_strs _), shaped_strs _ hzs, shaped_strs _ hzs, _, rfl, q' _ _ ⟨s1.trans s2, ?_⟩⟩
        rw [eqv_strs hzs]
        rfl
      · rintro _ ⟨_, e⟩
        cases e
      · rintro G2 ⟨s2, _⟩
        have h2 := s2 _ _ hhb
        refine ⟨_, rfl, hb, CH, dxh, _, y.pr, rfl, h2, TH.cl, TH.n1, rfl, _, rfl, hb, CH, dxh, _, y.la, rfl, h2, TH.cl, TH.n2, rfl, _, rfl, hb, CH, dxh, _, y.go, rfl, h2, TH.cl, TH.n3, rfl, _, rfl, hb, CH, dxh, _, y.sh, rfl, h2, TH.cl, TH.n4, rfl, (by show 4 ≤ sizeLine; decide), fun t nt => ?_⟩
        exact k t _ (Lw.Same.new (s.trans s2) nt) (none_of_same (s.trans s2) nt) (by rw [told_fine e e2 ew]; exact upd_same)
end
end Lw

set_option Elab.async false
set_option linter.all false
set_option maxRecDepth 100000
set_option maxHeartbeats 40000000
namespace Lw
open PySem PySem.Spec PyProof.Rows L2
abbrev sDue : Stmt := top 30
section
variable {P : Program} {w : World} {K : PySem.W.Frag} {mg : Str → Option Value} {base : Heap}
/-! what is due -/
def isS : V → Bool
  | .str _ => true
  | _ => false
theorem PlV.isS {K : PySem.W.Frag} {a : Addr} {H : Hp} {v : V} (h : PlV a H v) : ∃ t, TyX K H v t ∧ PySem.W.kitOne K t (.type "str") = some (isS v) := by
  cases h with
  | str z => exact ⟨_, ty_str z, (show PySem.W.kitOne K _ _ = some true from kit_ty (by decide +kernel))⟩
  | non => exact ⟨_, ty_non, (show PySem.W.kitOne K _ _ = some false from kit_ty (by decide +kernel))⟩
  | int i => exact ⟨_, ty_int i, (show PySem.W.kitOne K _ _ = some false from kit_ty (by decide +kernel))⟩
  | bl b => exact ⟨_, ty_bl b, (show PySem.W.kitOne K _ _ = some false from kit_ty (by decide +kernel))⟩
  | box n b =>
    cases b with
    | lst h => exact ⟨_, .base (.lst h), (show PySem.W.kitOne K _ _ = some false from kit_ty (by decide +kernel))⟩
    | tup h => exact ⟨_, .base (.tup h), (show PySem.W.kitOne K _ _ = some false from kit_ty (by decide +kernel))⟩
    | dic h => exact ⟨_, .base (.dK h), (show PySem.W.kitOne K _ _ = some false from kit_ty (by decide +kernel))⟩
theorem gd_isS {ts : List Str} {v : V} (h : isS v = false) : gdL ts v = false := by
  cases v with
  | str z => cases h
  | _ => rfl
/-- which of the columns are told to be wrong -/
structure CW (xs : List V) (ws : List Bool) : Prop where
  len : ws.length = xs.length
  at_ : ∀ (i : Nat) (v : V) (w : Bool), xs[i]? = some v → ws[i]? = some w → (w = true → ∀ z, v = .str z → ¬ IsWord z ∨ z = "key") ∧ (w = false → (∃ z, v = .str z ∧ IsWord z ∧ z ≠ "key") ∨ ∃ j, j < i ∧ ws[j]? = some true)
theorem CW.nil : CW [] [] := ⟨rfl, fun i v w h => by simp at h⟩
theorem CW.bad {xs : List V} {ws : List Bool} (h : CW xs ws) {i : Nat} (hw : ws[i]? = some true) : badC xs i = true := by
  have hi := (List.getElem?_eq_some_iff.mp hw).1
  rw [h.len] at hi
  have hx : xs[i]? = some xs[i] := List.getElem?_eq_getElem hi
  have := (h.at_ i _ _ hx hw).1 rfl
  unfold badC
  rw [hx]
  cases hv : xs[i] with
  | str z =>
    show (!isWordB z || (decide (z = "key") || _)) = true
    rcases this z hv with h1 | h1
    · have : isWordB z = false := by
        cases q : isWordB z with
        | false => rfl
        | true => exact absurd ((isWordB_iff z).mp q) h1
      rw [this]
      rfl
    · rw [decide_eq_true h1]
      cases isWordB z <;> rfl
  | _ => rfl
theorem CW.word {xs : List V} {ws : List Bool} (h : CW xs ws) {i : Nat} {v : V} (hx : xs[i]? = some v) (hw : ws[i]? = some false) (bef : ∀ j, j < i → badC xs j = false) : ∃ z, v = .str z ∧ IsWord z ∧ z ≠ "key" := by
  rcases (h.at_ i v false hx hw).2 rfl with h1 | ⟨j, hj, h2⟩
  · exact h1
  · have := bef j hj
    rw [h.bad h2] at this
    cases this
def spDue15 : Sp := fun vs H Q _ => ∃ (a c wl h : Addr) (nm : V) (xs : List V) (ws : List Bool) (y : Hv), vs = [nm, .ref c, .ref wl, .ref h] ∧ H c = some (.lst xs) ∧ H wl = some (.lst (ws.map V.bl)) ∧ CW xs ws ∧ xs.length ≤ 1000 ∧ H h = some (.lst [y.pr, y.la, y.go, y.sh]) ∧ badName nm = false ∧ PlH a H y ∧
  ∀ t G, Same H G → H t = none → G t = some (.tup (toldR nm xs y)) → Q (.ref t) G
abbrev nDue : List Str := ["name", "columns", "wrong", "habits", "at", "column", "allowed", "word"]
theorem scDue : FnScope nDue ["name", "columns", "wrong", "habits"] (defScope sDue) := ⟨rfl, rfl, rfl, by decide +kernel, rfl, by decide +kernel, by decide +kernel⟩
abbrev allowT : List (List V) := [[.str "stop", .str "keep", .str "replace", .str "merge"], [.str "stop", .str "skip", .str "make"], [.str "stop", .str "skip"], [.str "one", .str "all"]]
theorem ok_due {f : Addr} {fd : FuncData} (F : FnP K "_law_due" sDue f fd) (hE : mg "enumerate" = none) (hi : mg "isinstance" = none) (hs : mg "str" = none) (ht : mg "tuple" = none) : FnOk P w K mg base CX0 1 f fd ["name", "columns", "wrong", "habits"] spDue15 := by
  refine F.ok scDue (fun vs H Q E h => ?_) (fun cdv A outer s0 H vs Q E hr h => ?_)
  · obtain ⟨a, c, wl, h, nm, xs, ws, y, rfl, _⟩ := h
    rfl
  · obtain ⟨a, c, wl, h, nm, xs, ws, y, rfl, hc, hw, cw, lx, hh, bn, py, k⟩ := h
    have nd := scDue.nd
    refine ⟨_, PSs.nox (pss_cons (ps_if (pt_cmpR op_isN (pv 0) pe_non (nomark _)) (pss_one (ps_ret (pe_tup (pa_cons pe_str (pa_cons (pe_un un_neg pe_int) pa_nil))))) pss_nil)
      (pss_cons (ps_for PassesOwn.never rfl (pi_enum (by rfl) hE (pa_cons (pv 1) pa_nil)) (pg_tup (by rfl) (pgs_cons (pg_name (i := 4) nd rfl (Or.inl rfl)) (pgs_cons (pg_name (i := 5) nd rfl (Or.inl rfl)) pgs_nil)))
        (pss_one (ps_if (PW.pt (pw_or (pt_val (pe_ix (r := rIxL K) (by exact ix_list) (pv 2) (pv 4) (fun _ _ => rfl))) (pw_or1 (pt_cmpR op_in_seq (pv 5) (pe_slice sl_list (pv 1) po_none (po_some (pv 4))) rfl)))) (pss_one (ps_ret (pe_tup (pa_cons pe_str (pa_cons (pv 4) pa_nil))))) pss_nil)))
      (pss_cons (ps_set (i := 6) nd rfl (Or.inl rfl) (pe_lst (pa_cons (pe_tup (pa_cons pe_str (pa_cons pe_str (pa_cons pe_str (pa_cons pe_str pa_nil))))) (pa_cons (pe_tup (pa_cons pe_str (pa_cons pe_str (pa_cons pe_str pa_nil)))) (pa_cons (pe_tup (pa_cons pe_str (pa_cons pe_str pa_nil))) (pa_cons (pe_tup (pa_cons pe_str (pa_cons pe_str pa_nil))) pa_nil))))))
      (pss_cons (ps_for PassesOwn.never rfl (pi_enum (by rfl) hE (pa_cons (pe_lst (pa_cons pe_str (pa_cons pe_str (pa_cons pe_str (pa_cons pe_str pa_nil))))) pa_nil)) (pg_tup (by rfl) (pgs_cons (pg_name (i := 4) nd rfl (Or.inl rfl)) (pgs_cons (pg_name (i := 7) nd rfl (Or.inl rfl)) pgs_nil)))
        (pss_one (ps_if (PW.pt (pw_or (pt_not (pt_val (pe_callB call_isi (by rfl) hi (by decide +kernel) (pa_cons (pe_ix (r := rIxL K) (by exact ix_list) (pv 3) (pv 4) (fun _ _ => rfl)) (pa_cons (pe_bltn (v := .ty "str") (by rfl) hs (by decide +kernel) rfl) pa_nil)))))
          (pw_or1 (pt_cmpR (r := Iw.rInW K true) (by exact Iw.op_notInW hr.units) (pe_ix (r := rIxL K) (by exact ix_list) (pv 3) (pv 4) (fun _ _ => rfl)) (pe_ix (r := rIxL K) (by exact ix_list) (pv 6) (pv 4) (fun _ _ => rfl)) (by rfl))))) (pss_one (ps_ret (pe_tup (pa_cons pe_str (pa_cons (pv 7) pa_nil))))) pss_nil)))
      (pss_one (ps_ret (pe_callTy call_tuple_of (by rfl) ht (by decide +kernel) (pa_cons (pv 3) pa_nil)))))))), ?_⟩
    have nN : nm ≠ .non := fun e => by rw [e] at bn; cases bn
    refine ⟨_, rfl, rfl, _, rfl, itFb (decide_eq_false nN) ?_⟩
    dsimp only [tNext]
    refine ⟨_, rfl, c, xs, rfl, SqL.of hc, ?_⟩
    refine for_it (walk_enum (xs := xs)) (fun i σ G => Same H G ∧ (∀ j, j < i → badC xs j = false) ∧ ∃ v4 v5 : Option V, σ = [some nm, some (.ref c), some (.ref wl), some (.ref h), v4, v5, none, none]) ⟨Same.refl H, fun j hj => absurd hj (Nat.not_lt_zero _), _, _, rfl⟩ (fun i σ G _ ⟨s', _⟩ => SqL.of (s' _ _ hc)) ?_ ?_
    · rintro i x σ G G' hi ⟨sG, bef, v4, v5, rfl⟩ ⟨t, x0, x1, rfl, nt, rfl, q1, hx⟩
      cases q1
      have hx : xs[i]? = some x1 := hx
      have s1 := Lw.Same.new (o := .tup [.int (i : Nat), x1]) sG nt
      refine ⟨t, _, rfl, SqT.of upd_same, rfl, _, _, rfl, _, _, rfl, rfl, ?_⟩
      generalize upd G t (.tup [.int (i : Nat), x1]) = G1 at s1 ⊢
      have il : i < xs.length := hi
      obtain ⟨wi, hwi⟩ : ∃ wi, ws[i]? = some wi := ⟨_, List.getElem?_eq_getElem (by rw [cw.len]; exact il)⟩
      refine s1_if (fun b' G2 => Same H G2 ∧ b' = badC xs i) (fun Q' q => ?_) ?_ ?_
      · refine ⟨_, rfl, _, rfl, wl, _, (i : Nat), .bl wi, rfl, rfl, SqL.of (s1 _ _ hw), atI_nat (by rw [List.getElem?_map, hwi]; rfl), _, rfl, ?_⟩
        cases hb : wi with
        | true =>
          rw [hb] at hwi
          exact iteT (q _ _ ⟨s1, (cw.bad hwi).symm⟩)
        | false =>
          rw [hb] at hwi
          obtain ⟨z, rfl, hz, nk⟩ := cw.word hx hwi bef
          have eb : badC xs i = inV (.str z) (xs.take i) := by
            unfold badC
            rw [hx]
            show (!isWordB z || (decide (z = "key") || _)) = _
            rw [isWordB_true hz, decide_eq_false nk]
            rfl
          have ct := cut_take (xs := xs) (i := i) (Nat.le_of_lt il)
          refine iteF ⟨_, rfl, _, rfl, _, rfl, _, rfl, c, xs, rfl, SqL.of (s1 _ _ hc), fun t2 nt2 => ?_⟩
          rw [ct]
          exact ⟨t2, xs.take i, rfl, .inl (SqL.of upd_same), rfl, good_flat bef, _, rfl, q _ _ ⟨Lw.Same.new s1 nt2, eb.symm⟩⟩
      · rintro G2 ⟨s2, e⟩
        refine ⟨_, rfl, (by show 2 ≤ sizeLine; decide), fun t2 nt2 => k t2 _ (Lw.Same.new s2 nt2) (none_of_same s2 nt2) ?_⟩
        rw [told_col bn (bad_some hi e.symm bef)]
        exact upd_same
      · rintro G2 ⟨s2, e⟩
        refine ⟨s2, fun j hj => ?_, _, _, rfl⟩
        rcases Nat.lt_or_eq_of_le (Nat.le_of_lt_succ hj) with hj | rfl
        · exact bef j hj
        · exact e.symm
    · rintro σ G ⟨sG, bef, v4, v5, rfl⟩
      have eB := bad_none bef
      dsimp only
      refine sq_set (fun x G2 => ∃ L t1 t2 t3 t4, x = .ref L ∧ Same H G2 ∧ G2 L = some (.lst [.ref t1, .ref t2, .ref t3, .ref t4]) ∧ G2 t1 = some (.tup ((["stop", "keep", "replace", "merge"] : List Str).map V.str)) ∧ G2 t2 = some (.tup ((["stop", "skip", "make"] : List Str).map V.str)) ∧ G2 t3 = some (.tup ((["stop", "skip"] : List Str).map V.str)) ∧ G2 t4 = some (.tup ((["one", "all"] : List Str).map V.str))) (fun Q' q => ?_) ?_
      · refine ⟨(by show 4 ≤ sizeLine; decide), fun t1 n1 => ⟨(by show 3 ≤ sizeLine; decide), fun t2 n2 => ⟨(by show 2 ≤ sizeLine; decide), fun t3 n3 => ⟨(by show 2 ≤ sizeLine; decide), fun t4 n4 => ⟨(by show 4 ≤ sizeLine; decide), fun L nL => ?_⟩⟩⟩⟩⟩
        have s1 := Lw.Same.new (o := .tup [.str "stop", .str "keep", .str "replace", .str "merge"]) (Same.refl G) n1
        have s2 := Lw.Same.new (o := .tup [.str "stop", .str "skip", .str "make"]) (Same.refl _) n2
        have s3 := Lw.Same.new (o := .tup [.str "stop", .str "skip"]) (Same.refl _) n3
        have s4 := Lw.Same.new (o := .tup [.str "one", .str "all"]) (Same.refl _) n4
        have s5 := Lw.Same.new (o := .lst [.ref t1, .ref t2, .ref t3, .ref t4]) (Same.refl _) nL
        exact q _ _ ⟨L, t1, t2, t3, t4, rfl, sG.trans (s1.trans (s2.trans (s3.trans (s4.trans s5)))), upd_same, s5 _ _ (s4 _ _ (s3 _ _ (s2 _ _ upd_same))), s5 _ _ (s4 _ _ (s3 _ _ upd_same)), s5 _ _ (s4 _ _ upd_same), s5 _ _ upd_same⟩
      rintro _ G2 ⟨L, t1, t2, t3, t4, rfl, s2, hL, g1, g2, g3, g4⟩
      refine ⟨(by show 4 ≤ sizeLine; decide), fun M nM => ⟨M, _, rfl, SqL.of upd_same, ?_⟩⟩
      have sM := Lw.Same.new (o := .lst [.str "present", .str "lacking", .str "gone", .str "shared"]) (Same.refl G2) nM
      have gM : (upd G2 M (.lst (habNames.map V.str))) M = some (.lst (habNames.map V.str)) := upd_same
      have sHM := s2.trans sM
      refine for_it (walk_enum (xs := habNames.map V.str)) (fun i σ G3 => Same (upd G2 M (.lst (habNames.map V.str))) G3 ∧ (∀ j x, j < i → habNames[j]? = some x → gd y x = true) ∧ ∃ v4 v7 : Option V, σ = [some nm, some (.ref c), some (.ref wl), some (.ref h), v4, v5, some (.ref L), v7]) ⟨Same.refl _, fun j x hj => absurd hj (Nat.not_lt_zero _), _, _, rfl⟩ (fun i σ G _ ⟨s', _⟩ => SqL.of (s' _ _ gM)) ?_ ?_
      · rintro i x σ G3 G' hi ⟨s3, bef, v4, v7, rfl⟩ ⟨t, x0, x1, rfl, nt, rfl, q1, hx⟩
        cases q1
        have hx : (habNames.map V.str)[i]? = some x1 := hx
        rw [List.getElem?_map] at hx
        obtain ⟨n, hn, rfl⟩ := Option.map_eq_some_iff.mp hx
        have s4 := Lw.Same.new (o := .tup [.int (i : Nat), .str n]) s3 nt
        refine ⟨t, _, rfl, SqT.of upd_same, rfl, _, _, rfl, _, _, rfl, rfl, ?_⟩
        generalize upd G3 t (.tup [.int (i : Nat), .str n]) = G4 at s4 ⊢
        have sH4 := sHM.trans s4
        have hh4 := sH4 _ _ hh
        have i4 : i < 4 := hi
        have at1 : ([y.pr, y.la, y.go, y.sh] : List V)[i]? = some (y.of n) := by
          have e : ∀ j, j < 4 → ∀ m, habNames[j]? = some m → ([y.pr, y.la, y.go, y.sh] : List V)[j]? = some (y.of m) := by
            intro j hj m hm
            have h4 : j = 0 ∨ j = 1 ∨ j = 2 ∨ j = 3 := by omega
            rcases h4 with rfl | rfl | rfl | rfl
            · obtain rfl : "present" = m := Option.some.inj hm
              rfl
            · obtain rfl : "lacking" = m := Option.some.inj hm
              rfl
            · obtain rfl : "gone" = m := Option.some.inj hm
              rfl
            · obtain rfl : "shared" = m := Option.some.inj hm
              rfl
          exact e i i4 n hn
        have at2 : ∃ tq, ([.ref t1, .ref t2, .ref t3, .ref t4] : List V)[i]? = some (.ref tq) ∧ G4 tq = some (.tup ((valsOf n).map V.str)) := by
          have e : ∀ j, j < 4 → ∀ m, habNames[j]? = some m → ∃ tq, ([.ref t1, .ref t2, .ref t3, .ref t4] : List V)[j]? = some (.ref tq) ∧ G4 tq = some (.tup ((valsOf m).map V.str)) := by
            intro j hj m hm
            have h4 : j = 0 ∨ j = 1 ∨ j = 2 ∨ j = 3 := by omega
            rcases h4 with rfl | rfl | rfl | rfl
            · obtain rfl : "present" = m := Option.some.inj hm
              exact ⟨t1, rfl, s4 _ _ (sM _ _ g1)⟩
            · obtain rfl : "lacking" = m := Option.some.inj hm
              exact ⟨t2, rfl, s4 _ _ (sM _ _ g2)⟩
            · obtain rfl : "gone" = m := Option.some.inj hm
              exact ⟨t3, rfl, s4 _ _ (sM _ _ g3)⟩
            · obtain rfl : "shared" = m := Option.some.inj hm
              exact ⟨t4, rfl, s4 _ _ (sM _ _ g4)⟩
          exact e i i4 n hn
        obtain ⟨tq, at2, gq⟩ := at2
        have pv1 := (py.same sH4).of n
        refine s1_if (fun b' G5 => Same G4 G5 ∧ b' = !gd y n) (fun Q' q => ?_) ?_ ?_
        · obtain ⟨ty, hty, kty⟩ := pv1.isS (K := K)
          refine ⟨_, rfl, _, rfl, h, _, (i : Nat), y.of n, rfl, rfl, SqL.of hh4, atI_nat at1, _, _, _, _, isS (y.of n), rfl, .ty _, hty, kty, _, rfl, ?_⟩
          cases hS : isS (y.of n) with
          | false =>
            refine iteT (q _ _ ⟨Same.refl _, ?_⟩)
            unfold gd
            rw [gd_isS hS]
            rfl
          | true =>
            refine iteF ⟨_, rfl, _, rfl, h, _, (i : Nat), y.of n, rfl, rfl, SqL.of hh4, atI_nat at1, _, rfl, _, rfl, L, _, (i : Nat), .ref tq, rfl, rfl, SqL.of (s4 _ _ (sM _ _ hL)), atI_nat at2, ?_⟩
            exact notIn_of pv1 (.inr (SqT.of gq)) ⟨_, rfl, q _ _ ⟨Same.refl _, rfl⟩⟩
        · rintro G5 ⟨s5, e⟩
          have gf : gd y n = false := by
            cases q : gd y n with
            | false => rfl
            | true => rw [q] at e; cases e
          obtain ⟨r, er⟩ := wrongs_at hn bef gf
          refine ⟨_, rfl, (by show 2 ≤ sizeLine; decide), fun t5 nt5 => k t5 _ (Lw.Same.new (sH4.trans s5) nt5) (none_of_same (sH4.trans s5) nt5) ?_⟩
          rw [told_hab bn eB er]
          exact upd_same
        · rintro G5 ⟨s5, e⟩
          refine ⟨s4.trans s5, fun j x hj hx2 => ?_, _, _, rfl⟩
          rcases Nat.lt_or_eq_of_le (Nat.le_of_lt_succ hj) with hj | rfl
          · exact bef j x hj hx2
          · have ex : n = x := Option.some.inj (hn.symm.trans hx2)
            rw [← ex]
            cases q : gd y n with
            | true => rfl
            | false => rw [q] at e; cases e
      · rintro σ G3 ⟨s3, bef, v4, v7, rfl⟩
        have e0 : wrongs y = [] := wrongs_nil.mpr fun x hx => by
          obtain ⟨j, hj⟩ := List.getElem?_of_mem hx
          exact bef j x (List.getElem?_eq_some_iff.mp hj).1 hj
        have sH3 := sHM.trans s3
        refine ⟨_, rfl, h, _, rfl, .inl ⟨SqL.of (sH3 _ _ hh), fun t5 nt5 => k t5 _ (Lw.Same.new sH3 nt5) (none_of_same sH3 nt5) ?_⟩⟩
        rw [told_fine bn eB e0]
        exact upd_same
end
end Lw

set_option Elab.async false
set_option linter.all false
set_option maxRecDepth 100000
set_option maxHeartbeats 40000000
namespace Lw
open PySem PySem.Spec PyProof.Rows L2
abbrev sSource : Stmt := top 23
abbrev sDraw : Stmt := top 24
abbrev sOf : Stmt := top 25
abbrev sWord : Stmt := top 27
abbrev sIsWord : Stmt := top 3
abbrev sOddL : Stmt := top 28
section
variable {P : Program} {w : World} {K : PySem.W.Frag} {mg : Str → Option Value} {base : Heap}
theorem scSource : FnScope ["script", "place", "cell", "digits"] ["script", "place"] (defScope sSource) := ⟨rfl, rfl, rfl, by decide +kernel, rfl, by decide +kernel, by decide +kernel⟩
theorem ok_source {f : Addr} {fd : FuncData} (F : FnP K "_law_source" sSource f fd) (T : TxtD mg) : FnOk P w K mg base CX0 1 f fd ["script", "place"] (spSource K) := by
  refine F.ok scSource (fun vs H Q E h => ?_) (fun cdv A outer s H vs Q E hr h => ?_)
  · obtain ⟨a, ns, i, rfl, _⟩ := h
    rfl
  · obtain ⟨a, ns, i, rfl, hS, hl, i0, i1, k⟩ := h
    refine ⟨_, PSs.nox (pss_cons (ps_set (i := 2) scSource.nd rfl (Or.inl rfl) (pe_ifExp (pt_cmpR op_lt (pv 1) (pe_callB call_len_seq (by rfl) T.len PySem.boot_len (pa_cons (pv 0) pa_nil)) (nomark _)) (pe_ix ix_list (pv 0) (pv 1) (fun _ _ => rfl)) pe_int))
      (pss_cons (ps_set (i := 3) scSource.nd rfl (Or.inl rfl) (pe_ifExp (pt_cmpR op_ge (pe_callB call_abs (by rfl) T.abs (by decide +kernel) (pa_cons (pv 2) pa_nil)) (pe_op op_pow pe_int pe_int) (nomark _)) (pe_callB call_abs (by rfl) T.abs (by decide +kernel) (pa_cons (pv 2) pa_nil)) pe_int))
      (pss_one (ps_ret (pe_lst (pa_cons (pv 3) (pa_cons (pe_op op_add (pe_op op_add (pe_op op_modN (pe_callTy call_int1 (by rfl) T.int (by decide +kernel) (pa_cons (pv 2) pa_nil)) pe_int) (pe_op op_mul pe_int (pv 1))) pe_int) (pa_cons pe_int pa_nil)))))))), ?_⟩
    refine sq_set (fun x H' => H = H' ∧ ∃ c : Int, x = .int c) (fun Q q => ?_) ?_
    · refine ⟨_, rfl, _, rfl, a, _, rfl, .inl hS, _, _, rfl, rfl, _, rfl, ?_⟩
      refine bool_ite (fun c => ?_) (fun c => ?_)
      · obtain ⟨x, hx, hm⟩ := atI_get (xs := ns.map V.int) i0 (by simpa using c)
        obtain ⟨z, _, rfl⟩ := List.mem_map.mp hm
        exact ⟨_, rfl, _, rfl, a, _, _, _, rfl, rfl, hS, hx, q _ _ ⟨rfl, z, rfl⟩⟩
      · exact q _ _ ⟨rfl, 0, rfl⟩
    rintro _ _ ⟨rfl, c, rfl⟩
    refine sq_set (fun x H' => H = H' ∧ ∃ d : Int, x = .int d ∧ 0 ≤ d) (fun Q q => ?_) ?_
    · refine ⟨_, rfl, _, rfl, _, _, rfl, rfl, ⟨by decide, by decide, by decide⟩, _, _, rfl, rfl, _, rfl, ?_⟩
      refine bool_ite (fun _ => ?_) (fun _ => ?_)
      · exact ⟨_, rfl, _, rfl, q _ _ ⟨rfl, _, rfl, by split <;> omega⟩⟩
      · exact q _ _ ⟨rfl, 0, rfl, by decide⟩
    rintro _ _ ⟨rfl, d, rfl, d0⟩
    refine ⟨_, rfl, _, rfl, .inl ⟨_, rfl, _, _, rfl, rfl, (by show (2305843009213693951 : Int) ≠ 0; decide), _, rfl, _, _, rfl, rfl, .inl ⟨by decide, by decide⟩, _, _, rfl, rfl, _, _, rfl, rfl, (by show 3 ≤ sizeLine; decide), fun p hp => ?_⟩⟩
    have hb := fmod_src c
    exact k p _ hp (fun b o h => by rw [upd_ne (ne_of_none h hp)]; exact h) ⟨d, _, 0, upd_same, d0, by omega, by omega, by decide, by decide⟩
theorem scDraw : FnScope ["source", "many", "digit"] ["source", "many"] (defScope sDraw) := ⟨rfl, rfl, rfl, by decide +kernel, rfl, by decide +kernel, by decide +kernel⟩
theorem ok_draw {f : Addr} {fd : FuncData} (F : FnP K "_law_draw" sDraw f fd) (T : TxtD mg) : FnOk P w K mg base CX0 1 f fd ["source", "many"] spDraw := by
  refine F.ok scDraw (fun vs H Q E h => ?_) (fun cdv A outer s H vs Q E hr h => ?_)
  · obtain ⟨a, n, m, rfl, _⟩ := h
    rfl
  · obtain ⟨a, n, m, rfl, ⟨d, s', t, hA, d0, s0, s1, t0, t1⟩, hn, m0, m1, k⟩ := h
    have hu := hu_of hr
    refine ⟨_, PSs.nox (pss_cons (ps_if (pt_cmpR op_gt (pe_ix ix_list (pv 0) pe_int (fun _ _ => rfl)) pe_int (nomark _))
        (pss_cons (ps_set (i := 2) scDraw.nd rfl (Or.inl rfl) (pe_op op_modN (pe_callTy call_int1 (by rfl) T.int (by decide +kernel) (pa_cons (pe_ix ix_list (pv 0) pe_int (fun _ _ => rfl)) pa_nil)) (pv 1)))
          (pss_cons (ps_asg (pe_op op_fdivN (pe_ix ix_list (pv 0) pe_int (fun _ _ => rfl)) (pv 1)) (pg_sub (pv 0) pe_int set_list)) (pss_one (ps_ret (pv 2))))) pss_nil)
      (pss_cons (ps_asg (pe_op op_add (pe_ix ix_list (pv 0) pe_int (fun _ _ => rfl)) pe_int) (pg_sub (pv 0) pe_int set_list))
      (pss_cons (ps_asg (pe_op op_modN (pe_callTy call_int1 (by rfl) T.int (by decide +kernel) (pa_cons (pe_op op_add (pe_op op_add (pe_op op_mul (pe_ix ix_list (pv 0) pe_int (fun _ _ => rfl)) pe_int) (pe_op op_mul (pe_op op_mul pe_int (pe_ix ix_list (pv 0) pe_int (fun _ _ => rfl))) (pe_ix ix_list (pv 0) pe_int (fun _ _ => rfl)))) pe_int) pa_nil)) pe_int) (pg_sub (pv 0) pe_int set_list))
      (pss_one (ps_ret (pe_op op_modN (pe_callTy call_int1 (by rfl) T.int (by decide +kernel) (pa_cons (pe_op op_fdivN (pe_op op_modN (pe_callTy call_int1 (by rfl) T.int (by decide +kernel) (pa_cons (pe_op op_add (pe_op op_pow (pe_op op_fdivN (pe_ix ix_list (pv 0) pe_int (fun _ _ => rfl)) pe_int) pe_int) (pe_op op_mul pe_int (pe_ix ix_list (pv 0) pe_int (fun _ _ => rfl)))) pa_nil)) pe_int) pe_int) pa_nil)) (pv 1))))))), ?_⟩
    have zA : ∀ (r : Int), 0 ≤ r.fmod m ∧ r.fmod m < m := fun r => ⟨Int.fmod_nonneg_of_pos r m0, Int.fmod_lt_of_pos r m0⟩
    have mz : m ≠ 0 := by omega
    have md : m ≠ 0 ∧ m.natAbs < 1073741824 := ⟨mz, by omega⟩
    refine sq_if (fun b H' => H = H' ∧ b = decide (0 < d)) (fun Q q => ?_) ?_ ?_
    · exact ⟨_, rfl, a, _, _, _, rfl, rfl, SqL.of hA, rfl, _, _, rfl, rfl, _, rfl, q _ _ ⟨rfl, rfl⟩⟩
    · rintro _ ⟨rfl, c⟩
      refine ⟨_, rfl, a, _, _, _, rfl, rfl, SqL.of hA, rfl, .inl ⟨_, rfl, _, rfl, _, _, rfl, rfl, mz, ?_⟩⟩
      refine ⟨_, rfl, a, _, _, _, rfl, rfl, SqL.of hA, rfl, _, rfl, _, _, rfl, rfl, md, _, rfl, a, _, _, _, rfl, rfl, hA, rfl, _, rfl, ?_⟩
      exact k _ _ (Keep.refl H).upd ⟨_, _, _, upd_same, Int.fdiv_nonneg d0 (by omega), s0, s1, t0, by omega⟩ (zA d).1 (zA d).2
    · rintro _ ⟨rfl, c⟩
      refine ⟨_, rfl, a, _, _, _, rfl, rfl, SqL.of hA, rfl, _, _, rfl, rfl, _, rfl, a, _, _, _, rfl, rfl, hA, rfl, ?_⟩
      refine ⟨_, rfl, a, _, _, _, rfl, rfl, SqL.of upd_same, rfl, _, _, rfl, rfl, .inl ⟨by show -(2 ^ 64) < s'; omega, by show s' < 2 ^ 64; omega⟩, _, rfl, a, _, _, _, rfl, rfl, SqL.of upd_same, rfl, _, _, rfl, rfl, .inl ⟨by decide, by decide⟩,
        _, rfl, a, _, _, _, rfl, rfl, SqL.of upd_same, rfl, _, _, rfl, rfl, .inr ⟨by show -(2 ^ 64) < t + 1; omega, by show t + 1 < 2 ^ 64; omega⟩, _, _, rfl, rfl, _, _, rfl, rfl, .inl ⟨_, rfl, _, _, rfl, rfl, (by show (2305843009213693951 : Int) ≠ 0; decide), _, rfl, a, _, _, _, rfl, rfl, upd_same, rfl, ?_⟩⟩
      have hb := fmod_src (s' * 69621 + 32452843 * (t + 1) * (t + 1) + 40009)
      have hq : ∀ z : Int, 0 ≤ z ∧ z < 2305843009213693951 → (z.fdiv 256).natAbs < 2 ^ 64 := fun z hz => by
        rw [Int.fdiv_eq_ediv_of_nonneg _ (by decide)]
        omega
      refine ⟨_, rfl, a, _, _, _, rfl, rfl, SqL.of upd_same, rfl, _, _, rfl, rfl, ⟨by decide, by decide⟩, _, _, rfl, rfl, ⟨by decide, by decide, hq _ hb⟩, _, rfl, a, _, _, _, rfl, rfl, SqL.of upd_same, rfl, _, _, rfl, rfl, .inl ⟨by decide, by decide⟩, _, _, rfl, rfl,
        .inl ⟨_, rfl, _, _, rfl, rfl, (by show (2305843009213693921 : Int) ≠ 0; decide), _, _, rfl, rfl, ⟨by decide, by decide⟩, .inl ⟨_, rfl, _, rfl, _, _, rfl, rfl, mz, ?_⟩⟩⟩
      refine k _ _ ((Keep.refl H).upd.upd) ⟨_, _, _, upd_same, d0, by omega, by omega, by omega, by omega⟩ (zA _).1 (zA _).2
theorem cal_draw (T : TxtD mg) (D : DefIs K mg "_law_draw" sDraw) : Cal P w K mg base CX0 "_law_draw" 1 ["source", "many"] spDraw := by
  obtain ⟨f, fd, hm, F⟩ := D
  exact ⟨f, fd, hm, F.kp, ok_draw F T, F.bindsN fun _ _ _ _ _ _ us hl => match us, hl with | [_, _], _ => rfl⟩
theorem scOf : FnScope ["source", "some"] ["source", "some"] (defScope sOf) := ⟨rfl, rfl, rfl, by decide +kernel, rfl, by decide +kernel, by decide +kernel⟩
theorem ok_of {f : Addr} {fd : FuncData} (F : FnP K "_law_of" sOf f fd) (T : TxtD mg) (cD : Cal P w K mg base CX0 "_law_draw" 1 ["source", "many"] spDraw) : FnOk P w K mg base CX0 2 f fd ["source", "some"] (spOf K) := by
  refine F.ok scOf (fun vs H Q E h => ?_) (fun cdv A outer s H vs Q E hr h => ?_)
  · obtain ⟨a, b, n, xs, rfl, _⟩ := h
    rfl
  · obtain ⟨a, b, n, xs, rfl, hs, hn, ba, hb, x0, x1, k⟩ := h
    refine ⟨_, PSs.nox (pss_one (ps_ret (pe_ix ix_list (pv 1) (pe_cal cD hr (pa_cons (pv 0) (pa_cons (pe_callB call_len_seq (by rfl) T.len PySem.boot_len (pa_cons (pv 1) pa_nil)) pa_nil))) (fun _ _ => rfl)))), ?_⟩
    have xl : 0 < xs.length := List.length_pos_iff.mpr x0
    refine ⟨_, rfl, _, rfl, _, rfl, b, _, rfl, .inl hb, a, n, _, rfl, hs, hn, by omega, by omega, fun H' i kp sr i0 i1 => ?_⟩
    obtain ⟨x, hx, hm⟩ := atI_get i0 i1
    exact ⟨b, _, _, _, rfl, rfl, kp.seq ba hb, hx, k _ _ kp sr hm⟩
theorem scWord : FnScope nWord ["source", "taken"] (defScope sWord) := ⟨rfl, rfl, rfl, by decide +kernel, rfl, by decide +kernel, by decide +kernel⟩
theorem ok_word {f : Addr} {fd : FuncData} (F : FnP K "_law_word" sWord f fd) (T : TxtD mg) (cD : Cal P w K mg base CX0 "_law_draw" 1 ["source", "many"] spDraw) : FnOk P w K mg base CX0 2 f fd ["source", "taken"] (spWord K) := by
  refine F.ok scWord (fun vs H Q E h => ?_) (fun cdv A outer s H vs Q E hr h => ?_)
  · obtain ⟨a, b, n, ts, rfl, _⟩ := h
    rfl
  · obtain ⟨a, b, n, ts, rfl, hs, hn, ba, hb, hts, k⟩ := h
    refine ⟨_, PSs.nox (pss_cons (ps_set (i := 2) scWord.nd rfl (Or.inr rfl) pe_str)
      (pss_cons (ps_set (i := 3) scWord.nd rfl (Or.inr rfl) (pe_join pe_str (pe_lc (own := [("turn", 5)]) (g := gName 5) (tt := tYes) rfl scWord.nd (pi_range1 rfl T.range (pa_cons (pe_op op_add pe_int (pe_cal cD hr (pa_cons (pv 0) (pa_cons pe_int pa_nil)))) pa_nil))
        (blkOk_by (N := nWord) (sc := defScope sWord) (by decide +kernel)) (fun _ _ _ _ _ => pg_name (i := 5) scWord.nd rfl (Or.inl rfl)) (fun _ _ _ _ _ => pts_nil) (fun _ _ _ _ _ => pe_ix ix_str (pv 2) (pe_cal cD hr (pa_cons (pv 0) (pa_cons pe_int pa_nil))) (fun _ _ => rfl)))))
      (pss_cons (ps_if (pt_cmpR op_notIn_seq (pv 3) (pv 1) rfl) (pss_one (ps_ret (pv 3))) pss_nil)
      (pss_cons (ps_setLc (i := 4) (own := [("letter", 6)]) (g := gName 6) (tt := tTest (tOp (rIn K true) (tSl rSlS (tOp _ (tVar 6) (tVar 3)) tNoPart (tPart (tC (.int 8)))) (tVar 1))) rfl scWord.nd rfl rfl (sw_true rfl rfl rfl (by decide +kernel)) (pi_str (pv 2)) (blkOk_by (N := nWord) (sc := defScope sWord) (by decide +kernel))
        (fun _ _ _ _ _ => pg_name (i := 6) scWord.nd rfl (Or.inl rfl)) (fun _ _ _ _ _ => pts_one (pt_cmpR op_notIn_seq (pe_slice sl_str (pe_op op_add_str (pv 6) (pv 3)) po_none (po_some pe_int)) (pv 1) rfl)) (fun _ _ _ _ _ => pv 6))
      (pss_one (ps_ret (pe_slice sl_str (pe_op op_add_str (pe_ix ix_list (pv 4) pe_int (fun _ _ => rfl)) (pv 3)) po_none (po_some pe_int)))))))), ?_⟩
    refine sq_set (fun x H' => H = H' ∧ x = .str letters) (fun Q q => q _ _ ⟨rfl, rfl⟩) ?_
    rintro _ _ ⟨rfl, rfl⟩
    refine sq_set (fun x H' => ∃ z, x = .str z ∧ IsWord z ∧ Keep a H H' ∧ Src H' a (n + 10)) (fun Q q => ?_) ?_
    · refine ⟨⟨_, rfl⟩, _, rfl, a, n, _, rfl, hs, by omega, by decide, by decide, fun H1 i k1 s1 i0 i1 => ⟨_, _, rfl, rfl, _, rfl, by omega, by omega, fun D hD => ?_⟩⟩
      have Da : D ≠ a := s1.ne hD
      refine lc_range (lo := 0) (n := (1 + i).toNat) (fun j H' => ∃ cs : List Nat, H' D = some (.lst ((cs.map sign).map V.str)) ∧ cs.length = j ∧ (∀ c ∈ cs, c ∈ abc) ∧ Keep a H H' ∧ Src H' a (n + 1 + j))
        ⟨[], upd_same, rfl, fun _ h => (List.not_mem_nil h).elim, k1.new hD, s1.new hD⟩ ?_ ?_
      · rintro j H' hj ⟨cs, hd, hl, ha, k2, s2⟩
        refine ⟨rfl, _, rfl, _, rfl, a, _, _, rfl, s2, by omega, by decide, by decide, fun H3 i3 k3 s3 j0 j1 => ?_⟩
        obtain ⟨c, hc, hm⟩ := abc_at j0 j1
        have hd3 := k3 _ _ Da hd
        refine ⟨_, _, c, rfl, rfl, (by show letters.cps.size ≤ sizeLine; rw [letters_cps]; decide), hc, _, hd3, by simp only [List.length_map, hl]; exact small1000 (by omega), cs ++ [c], ?_, by simp [hl], fun x hx => ?_, ?_, ?_⟩
        · rw [upd_same]; simp [sign]
        · rcases List.mem_append.mp hx with h | h
          · exact ha x h
          · rw [List.mem_singleton.mp h]; exact hm
        · intro b' o nb ho
          have e := k3 b' o nb (k2 b' o nb ho)
          by_cases hbD : b' = D
          · exfalso
            rw [hbD] at ho nb
            have := k1 D o nb ho
            rw [hD] at this
            cases this
          · rw [upd_ne hbD]; exact e
        · obtain ⟨d, s', t, h1, h2⟩ := s3
          exact ⟨d, s', t, by rw [upd_ne Da.symm]; exact h1, h2⟩
      · rintro H' ⟨cs, hd, hl, ha, k2, s2⟩
        refine ⟨_, D, cs.map sign, rfl, rfl, .inl (SqL.of hd), ?_, ?_⟩
        · have e1 : ((cs.map sign).map (·.length)).sum = cs.length := by
            clear hd hl ha
            induction cs with
            | nil => rfl
            | cons c r ih => simp only [List.map_cons, List.sum_cons, ih, List.length_cons]; show 1 + _ = _; omega
          have e2 : (PySem.Str.ofString "").length = 0 := by decide +kernel
          rw [e1, e2]
          omega
        · have e : (Txt.join (PySem.Str.ofString "") (cs.map sign)).cps.toList = cs := join_signs _ (by decide +kernel) cs
          refine q _ _ ⟨_, rfl, ⟨?_, ?_, ?_⟩, k2, s2.mono (by omega)⟩
          · rw [len_tl, e]; omega
          · rw [len_tl, e]; omega
          · rw [e]; exact fun c hc => abc_le (ha c hc)
    rintro _ H1 ⟨z, rfl, hz, k1, s1⟩
    have hb1 := k1.seq ba hb
    refine sq_if1 (fun b' H' => H1 = H' ∧ (b' = true → z ∉ ts)) (fun Q q => ?_) ?_ ?_
    · refine ⟨_, rfl, _, rfl, b, _, rfl, .inl hb1, rfl, flat_strs ts, _, rfl, q _ _ ⟨rfl, fun h => ?_⟩⟩
      have h2 : (!inV (.str z) (ts.map V.str)) = true := h
      rw [inV_str] at h2
      simpa using h2
    · rintro _ ⟨rfl, hnt⟩
      exact ⟨_, rfl, k _ _ k1 s1 hz (hnt rfl)⟩
    rintro _ ⟨rfl, _⟩
    refine sq_set (fun x H' => ∃ D, x = .ref D ∧ D ≠ a ∧ H' D = some (.lst (((abc.filter (fun c => !decide (cand z c ∈ ts))).map sign).map V.str)) ∧ Keep a H H' ∧ Src H' a (n + 10)) (fun Q q => ?_) ?_
    · refine ⟨_, rfl, _, rfl, fun D hD => ?_⟩
      have Da : D ≠ a := s1.ne hD
      refine lc_it walk_str (fun j H' => H' D = some (.lst ((((abc.take j).filter (fun c => !decide (cand z c ∈ ts))).map sign).map V.str)) ∧ Keep a H H' ∧ Src H' a (n + 10))
        ⟨upd_same, k1.new hD, s1.new hD⟩ (fun _ _ _ _ => trivial) ?_ ?_
      · rintro j x H' _ hj ⟨hd, k2, s2⟩ ⟨rfl, c, hc, rfl⟩
        have hc2 : abc[j]? = some c := by
          rw [letters_cps] at hc
          simpa using hc
        have ht : abc.take (j + 1) = abc.take j ++ [c] := by rw [List.take_add_one, hc2]; rfl
        refine ⟨rfl, _, rfl, _, rfl, _, _, rfl, rfl, ?_, _, rfl, _, rfl, ?_, _, rfl, b, _, rfl, .inl (k2.seq ba hb), rfl, flat_strs ts, _, rfl, ?_⟩
        · have := hz.2.1
          show 1 + z.length ≤ sizeLine
          exact Nat.le_trans (show 1 + z.length ≤ 9 by omega) (by decide)
        · show (sign c ++ z).length ≤ sizeLine
          have := hz.2.1
          rw [len_tl] at this
          rw [len_tl, tl_app]
          simp only [List.length_append, tl_sign, List.length_singleton]
          exact Nat.le_trans (show 1 + z.cps.toList.length ≤ 9 by omega) (by decide)
        · refine str_notmem (fun h => ?_) (fun h => ?_)
          · refine ⟨_, rfl, _, hd, ?_, ?_, ?_, ?_⟩
            · simp only [List.length_map]
              refine Nat.lt_of_le_of_lt (List.length_filter_le _ _) (Nat.lt_of_le_of_lt (List.length_take_le' _ _) (by decide))
            · rw [upd_same, ht, List.filter_append, List.map_append, List.map_append]
              have e : [c].filter (fun c => !decide (cand z c ∈ ts)) = [c] := by
                have h2 : cand z c ∉ ts := h
                simp [h2]
              rw [e]
              rfl
            · intro b' o nb ho
              by_cases hbD : b' = D
              · exfalso
                rw [hbD] at ho nb
                have := k1 D o nb ho
                rw [hD] at this
                cases this
              · rw [upd_ne hbD]; exact k2 b' o nb ho
            · obtain ⟨d, s', t, h1, h2⟩ := s2
              exact ⟨d, s', t, by rw [upd_ne Da.symm]; exact h1, h2⟩
          · refine ⟨?_, k2, s2⟩
            rw [ht, List.filter_append]
            have e : [c].filter (fun c => !decide (cand z c ∈ ts)) = [] := by
              have h2 : cand z c ∈ ts := h
              simp [h2]
            rw [e, List.append_nil]
            exact hd
      · rintro H' ⟨hd, k2, s2⟩
        refine q _ _ ⟨D, rfl, Da, ?_, k2, s2⟩
        have e : abc.take letters.cps.size = abc := by rw [letters_cps]; rfl
        rw [e] at hd
        exact hd
    rintro _ H2 ⟨D, rfl, Da, hd, k2, s2⟩
    have hne := free_some z ts hts
    obtain ⟨c, r, hcr⟩ := List.exists_cons_of_ne_nil hne
    have hc : c ∈ abc.filter (fun c => !decide (cand z c ∈ ts)) := by rw [hcr]; exact List.mem_cons_self
    obtain ⟨hca, hcn⟩ := List.mem_filter.mp hc
    have hcn2 : cand z c ∉ ts := by simpa using hcn
    rw [hcr] at hd
    refine ⟨_, rfl, D, _, _, _, rfl, rfl, SqL.of hd, atI_nat (j := 0) rfl, _, rfl, _, _, rfl, rfl, ?_, _, rfl, _, rfl, ?_, k _ _ k2 s2 (cand_word hz hca) hcn2⟩
    · have := hz.2.1
      show 1 + z.length ≤ sizeLine
      exact Nat.le_trans (show 1 + z.length ≤ 9 by omega) (by decide)
    · show (sign c ++ z).length ≤ sizeLine
      have := hz.2.1
      rw [len_tl] at this
      rw [len_tl, tl_app]
      simp only [List.length_append, tl_sign, List.length_singleton]
      exact Nat.le_trans (show 1 + z.cps.toList.length ≤ 9 by omega) (by decide)
theorem scIsWord : FnScope ["value", "letter"] ["value"] (defScope sIsWord) := ⟨rfl, rfl, rfl, by decide +kernel, rfl, by decide +kernel, by decide +kernel⟩
theorem ok_isWord {f : Addr} {fd : FuncData} (F : FnP K "is_word" sIsWord f fd) (T : TxtP mg) : FnOk P w K mg base CX0 1 f fd ["value"] (spIsWord K) := by
  obtain ⟨tk, hlw⟩ := T.longest
  refine F.ok scIsWord (fun vs H Q E h => ?_) (fun cdv A outer s H vs Q E hr h => ?_)
  · obtain ⟨v, b, rfl, _⟩ := h
    rfl
  · obtain ⟨v, b, rfl, hv, k⟩ := h
    refine ⟨_, PSs.nox (pss_cons (ps_if (PW.pt (pw_or (pt_not (pt_val (pe_callB call_isi (by rfl) T.isi (by decide +kernel) (pa_cons (pv 0) (pa_cons (pe_bltn (v := .ty "str") (by rfl) T.str (by decide +kernel) rfl) pa_nil)))))
        (pw_or1 (pt_not (pt_chain op_le op_le pe_int (pe_callB call_len_str (by rfl) T.len PySem.boot_len (pa_cons (pv 0) pa_nil)) (pe_glob (v := .int 8) rfl hlw ⟨_, rfl⟩)))))) (pss_one (ps_ret pe_bl)) pss_nil)
      (pss_one (ps_ret (pe_callB (cr_all rfl) (by rfl) T.all (by decide +kernel) (pa_cons (pe_lc (own := [("letter", 1)]) (g := gName 1) (tt := tYes) rfl scIsWord.nd (pi_str (pv 0)) (blkOk_by (N := ["value", "letter"]) (sc := defScope sIsWord) (by decide +kernel))
        (fun _ _ _ _ _ => pg_name (i := 1) scIsWord.nd rfl (Or.inl rfl)) (fun _ _ _ _ _ => pts_nil) (fun _ _ _ _ _ => pe_chain op_le_str op_le_str pe_str (pv 1) pe_str)) pa_nil))))), ?_⟩
    have isz : ∀ z : Str, z.length ≤ 1000 → z.length ≤ sizeLine := fun z hz => Nat.le_trans hz (by decide)
    rcases hv with ⟨z, rfl, hz, rfl⟩ | ⟨rfl, t, ht, kt⟩
    · refine sq_if1 (fun b' H' => H = H' ∧ b' = !(decide (1 ≤ z.length) && decide (z.length ≤ 8))) (fun Q q => ?_) ?_ ?_
      · refine ⟨_, rfl, _, _, _, _, true, rfl, .ty _, ty_str z, kit_ty (by decide +kernel), true, rfl, iteF ⟨_, rfl, _, rfl, isz z hz, _, _, rfl, rfl, _, rfl, ?_⟩⟩
        refine bool_ite (fun c => ?_) (fun c => ?_)
        · refine ⟨_, _, rfl, rfl, _, rfl, q _ _ ⟨rfl, ?_⟩⟩
          have c1 : 1 ≤ z.length := by omega
          rw [decide_eq_true c1, Bool.true_and]
          congr 1
          exact decide_eq_decide.mpr (by omega)
        · refine ⟨_, rfl, q _ _ ⟨rfl, ?_⟩⟩
          have c1 : ¬ 1 ≤ z.length := by omega
          rw [decide_eq_false c1, Bool.false_and]
      · rintro _ ⟨rfl, e⟩
        have e1 : isWordB z = false := by
          unfold isWordB
          rw [← Bool.and_assoc]
          have e2 : (decide (1 ≤ z.length) && decide (z.length ≤ 8)) = false := by
            cases q : (decide (1 ≤ z.length) && decide (z.length ≤ 8)) with
            | false => rfl
            | true => rw [q] at e; cases e
          rw [e2, Bool.false_and]
        rw [e1] at k
        exact k _ (Same.refl H)
      · rintro _ ⟨rfl, e⟩
        have e2 : (decide (1 ≤ z.length) && decide (z.length ≤ 8)) = true := by
          cases q : (decide (1 ≤ z.length) && decide (z.length ≤ 8)) with
          | true => rfl
          | false => rw [q] at e; cases e
        have e1 : isWordB z = z.cps.toList.all fun c => decide (97 ≤ c) && decide (c ≤ 122) := by
          unfold isWordB
          rw [← Bool.and_assoc, e2, Bool.true_and]
        refine ⟨_, rfl, z, rfl, fun D hD => ?_⟩
        refine lc_it walk_str (fun j H' => H' D = some (.lst (((z.cps.toList.take j).map fun c => decide (97 ≤ c) && decide (c ≤ 122)).map V.bl)) ∧ Same H H')
          ⟨upd_same, fun b o h => by rw [upd_ne (ne_of_none h hD)]; exact h⟩ (fun _ _ _ _ => trivial) ?_ ?_
        · rintro j x _ H' hj ⟨hd, k2⟩ ⟨rfl, c, hc, rfl⟩
          have hc2 : z.cps.toList[j]? = some c := by simpa using hc
          have ht : z.cps.toList.take (j + 1) = z.cps.toList.take j ++ [c] := by rw [List.take_add_one, hc2]; rfl
          have fin : ∀ b' : Bool, b' = (decide (97 ≤ c) && decide (c ≤ 122)) → ∃ acc, H' D = some (.lst acc) ∧ acc.length < sizeLine ∧ ((upd H' D (.lst (acc ++ [.bl b']))) D = some (.lst (((z.cps.toList.take (j + 1)).map fun c => decide (97 ≤ c) && decide (c ≤ 122)).map V.bl)) ∧ Same H (upd H' D (.lst (acc ++ [.bl b'])))) := fun b' hb' => by
            refine ⟨_, hd, ?_, ?_, fun b o h => ?_⟩
            · simp only [List.length_map]
              rw [len_tl] at hz
              exact Nat.lt_of_le_of_lt (List.length_take_le' _ _) (Nat.lt_of_le_of_lt hz (by decide))
            · rw [upd_same, ht, List.map_append, List.map_append, hb']
              rfl
            · by_cases hbD : b = D
              · rw [hbD, hD] at h
                cases h
              · rw [upd_ne hbD]; exact k2 b o h
          have la : ∀ c d : Nat, decide (([c] : List Nat) < [d]) = decide (c < d) := lt_sign
          refine ⟨rfl, _, rfl, _, _, rfl, rfl, _, rfl, ?_⟩
          show if (!decide ([c] < [97])) = true then _ else _
          rw [lt_sign]
          by_cases c1 : c < 97
          · rw [decide_eq_true c1, Bool.not_true, if_neg Bool.false_ne_true]
            exact fin false (by rw [decide_eq_false (by omega : ¬ 97 ≤ c), Bool.false_and])
          · rw [decide_eq_false c1, Bool.not_false, if_pos rfl]
            refine ⟨_, _, rfl, rfl, ?_⟩
            show ∃ acc, _ ∧ _ ∧ _
            have e3 : (!decide ([122] < ([c] : List Nat))) = (decide (97 ≤ c) && decide (c ≤ 122)) := by
              rw [lt_sign, decide_eq_true (by omega : 97 ≤ c), Bool.true_and]
              by_cases c2 : c ≤ 122
              · rw [decide_eq_true c2, decide_eq_false (by omega : ¬ 122 < c)]; rfl
              · rw [decide_eq_false c2, decide_eq_true (by omega : 122 < c)]; rfl
            exact fin _ e3
        · rintro H' ⟨hd, k2⟩
          have e4 : z.cps.toList.take z.cps.size = z.cps.toList := List.take_of_length_le (by simp)
          rw [e4] at hd
          refine ⟨D, _, rfl, SqL.of hd, ?_⟩
          have e5 : (z.cps.toList.map fun c => decide (97 ≤ c) && decide (c ≤ 122)).all id = isWordB z := by
            rw [e1, List.all_map]
            rfl
          show Q (.bl _) H'
          rw [e5]
          exact k _ k2
    · refine sq_if1 (fun b' H' => H = H' ∧ b' = true) (fun Q q => ⟨_, rfl, _, _, _, _, false, rfl, .ty _, ht, kit_ty kt, false, rfl, iteT (q _ _ ⟨rfl, rfl⟩)⟩) ?_ ?_
      · rintro _ ⟨rfl, _⟩
        exact k _ (Same.refl H)
      · rintro _ ⟨_, e⟩
        cases e
/-! a value that is no word; a list, tuple or dict among them is new -/
def spOddF : Sp := fun vs H Q _ => ∃ (a : Addr) (n : Nat), vs = [.ref a] ∧ Src H a n ∧ n ≤ 900000000 ∧ ∀ H' v, Keep a H H' → Src H' a (n + 1) → Odd a H' v → (∀ p, v = .ref p → H p = none) → Q v H'
theorem scOdd : FnScope ["source"] ["source"] (defScope sOddL) := ⟨rfl, rfl, rfl, by decide +kernel, rfl, by decide +kernel, by decide +kernel⟩
theorem ok_odd {f : Addr} {fd : FuncData} (F : FnP K "_law_odd" sOddL f fd) (cO : Cal P w K mg base CX0 "_law_of" 2 ["source", "some"] (spOf K)) : FnOk P w K mg base CX0 3 f fd ["source"] spOddF := by
  refine F.ok scOdd (fun vs H Q E h => ?_) (fun cdv A outer s0 H vs Q E hr h => ?_)
  · obtain ⟨a, n, rfl, _⟩ := h
    rfl
  · obtain ⟨a, n, rfl, hs, hn, k⟩ := h
    refine ⟨_, PSs.nox (pss_one (ps_ret (pe_cal cO hr (pa_cons (pv 0) (pa_cons (pe_lst (pa_cons pe_str (pa_cons pe_str (pa_cons pe_str (pa_cons pe_str (pa_cons pe_str (pa_cons pe_str (pa_cons pe_str (pa_cons pe_str (pa_cons pe_str
      (pa_cons pe_non (pa_cons pe_int (pa_cons pe_int (pa_cons pe_bl (pa_cons pe_bl (pa_cons (pe_un un_neg pe_int) (pa_cons (pe_op op_pow pe_int pe_int) (pa_cons (pe_tup (pa_cons pe_str pa_nil)) (pa_cons (pe_lst (pa_cons pe_str pa_nil))
      (pa_cons (pe_disp (pps_cons pe_str pe_str pps_nil) (by rfl) (by rfl) (fun z => by cases z) (by decide)) (pa_cons (pe_tup pa_nil) (pa_cons (pe_lst pa_nil) pa_nil)))))))))))))))))))))) pa_nil))))), ?_⟩
    refine ⟨_, rfl, _, rfl, _, _, rfl, rfl, ⟨by decide, by decide, by decide⟩, (by show 1 ≤ sizeLine; decide), fun t1 n1 => ⟨(by show 1 ≤ sizeLine; decide), fun l1 n2 => fun d1 n3 => ⟨upd_same, [(.inr "a", .str "b")], rfl, (by show 1 ≤ 15; decide), (by show 0 ≤ sizeLine; decide), fun t2 n4 => ⟨(by show 0 ≤ sizeLine; decide), fun l2 n5 => ⟨(by show 21 ≤ sizeLine; decide), fun L n6 => ?_⟩⟩⟩⟩⟩
    have s1 := Lw.Same.new (o := .tup [.str "a"]) (Same.refl H) n1
    have s2 := Lw.Same.new (o := .lst [.str "a"]) (Same.refl _) n2
    have s3 := same_new2 (o := .dK []) (u := .dK (mergeK [] [(.inr "a", .str "b")])) n3
    have s4 := Lw.Same.new (o := .tup []) (Same.refl _) n4
    have s5 := Lw.Same.new (o := .lst []) (Same.refl _) n5
    have s6 := Lw.Same.new (o := .lst [.str "", .str "abcdefghi", .str "A", .str "aB", .str "a1", .str "a b", .str " a", .str "a_", .str "-", .non, .int 0, .int 1, .bl true, .bl false, .int (-7), .int (10 ^ 30), .ref t1, .ref l1, .ref d1, .ref t2, .ref l2]) (Same.refl _) n6
    have e6 := s6
    have e5 := s5.trans e6
    have e4 := s4.trans e5
    have e3 := s3.trans e4
    have e2 := s2.trans e3
    have e1 := s1.trans e2
    have a1 : t1 ≠ a := hs.ne n1
    have a2 : l1 ≠ a := (hs.same s1).ne n2
    have a3 : d1 ≠ a := (hs.same (s1.trans s2)).ne n3
    have a4 : t2 ≠ a := (hs.same ((s1.trans s2).trans s3)).ne n4
    have a5 : l2 ≠ a := (hs.same (((s1.trans s2).trans s3).trans s4)).ne n5
    have a6 : L ≠ a := (hs.same ((((s1.trans s2).trans s3).trans s4).trans s5)).ne n6
    refine ⟨a, L, n, _, rfl, hs.same e1, by omega, a6, SqL.of upd_same, (fun z => by cases z), (by show 21 ≤ 100000; decide), fun H' x kp sr hx => ?_⟩
    have fr : ∀ p ∈ [t1, l1, d1, t2, l2], H p = none := fun p hp => by
      simp only [List.mem_cons, List.not_mem_nil, or_false] at hp
      rcases hp with rfl | rfl | rfl | rfl | rfl
      · exact n1
      · exact none_of_same s1 n2
      · exact none_of_same (s1.trans s2) n3
      · exact none_of_same ((s1.trans s2).trans s3) n4
      · exact none_of_same (((s1.trans s2).trans s3).trans s4) n5
    refine k H' x ((Keep.of_same e1).trans kp) sr (Odd.keep kp ?_) (fun p e => ?_)
    rotate_left
    · subst e
      simp only [List.mem_cons, List.not_mem_nil, or_false, V.ref.injEq, reduceCtorEq, false_or] at hx
      exact fr p (by simpa using hx)
    simp only [List.mem_cons, List.not_mem_nil, or_false] at hx
    rcases hx with rfl | rfl | rfl | rfl | rfl | rfl | rfl | rfl | rfl | rfl | rfl | rfl | rfl | rfl | rfl | rfl | rfl | rfl | rfl | rfl | rfl
    · exact .str (by decide +kernel)
    · exact .str (by decide +kernel)
    · exact .str (by decide +kernel)
    · exact .str (by decide +kernel)
    · exact .str (by decide +kernel)
    · exact .str (by decide +kernel)
    · exact .str (by decide +kernel)
    · exact .str (by decide +kernel)
    · exact .str (by decide +kernel)
    · exact .non
    · exact .int _
    · exact .int _
    · exact .bl _
    · exact .bl _
    · exact .int _
    · exact .int _
    · exact .tup a1 (e2 _ _ upd_same) (.inr rfl)
    · exact .lst a2 (e3 _ _ upd_same) (.inr rfl)
    · exact .dic a3 (e4 _ _ upd_same)
    · exact .tup a4 (e5 _ _ upd_same) (.inl rfl)
    · exact .lst a5 (e6 _ _ upd_same) (.inl rfl)
end
end Lw

set_option Elab.async false
set_option linter.all false
set_option maxRecDepth 100000
set_option maxHeartbeats 40000000
namespace Lw
open PySem PySem.Spec PyProof.Rows L2
section
variable {P : Program} {w : World} {K : PySem.W.Frag} {mg : Str → Option Value} {base : Heap}
/-! the law's state -/
theorem odd_nm {a : Addr} {H : Hp} {v : V} (h : Odd a H v) : Nm a H v := by
  cases h with
  | @str z h =>
    refine ⟨.str z, fun y e => ?_⟩
    cases e
    have e : ∀ z ∈ oddStrs, decide (z.length ≤ 1000) = true := by decide +kernel
    exact of_decide_eq_true (e z h)
  | non => exact ⟨.non, fun z e => by cases e⟩
  | int i => exact ⟨.int i, fun z e => by cases e⟩
  | bl b => exact ⟨.bl b, fun z e => by cases e⟩
  | tup n h e => exact ⟨.box n (.tup h), fun z e => by cases e⟩
  | lst n h e => exact ⟨.box n (.lst h), fun z e => by cases e⟩
  | dic n h => exact ⟨.box n (.dic h), fun z e => by cases e⟩
theorem odd_bad {a : Addr} {H : Hp} {v : V} (h : Odd a H v) : ∀ z, v = .str z → ¬ IsWord z := fun z e hz => by
  subst e
  cases h with
  | str h =>
    have e : ∀ z ∈ oddStrs, isWordB z = false := by decide +kernel
    have := e z h
    rw [isWordB_true hz] at this
    cases this
theorem odd_name {a : Addr} {H : Hp} {v : V} (h : Odd a H v) : badName v = true := by
  cases v with
  | str z =>
    have : isWordB z = false := by
      cases q : isWordB z with
      | false => rfl
      | true => exact absurd ((isWordB_iff z).mp q) (odd_bad h z rfl)
    show (!isWordB z || _) = true
    rw [this]
    rfl
  | _ => rfl
theorem word_nm {a : Addr} {H : Hp} {z : Str} (h : IsWord z) : Nm a H (.str z) := ⟨.str z, fun y e => by cases e; exact Nat.le_trans h.2.1 (by decide)⟩
theorem good_name {z : Str} (h : IsWord z) (n : z ∉ (["table", "key"] : List Str)) : badName (.str z) = false := by
  show (!isWordB z || decide (z ∈ (["table", "key"] : List Str))) = false
  rw [isWordB_true h, decide_eq_false n]
  rfl
theorem PlV.frame {a : Addr} {G G' : Hp} {v : V} (h : PlV a G v) (k : ∀ p, v = .ref p → ∀ o, G p = some o → G' p = some o) : PlV a G' v := by
  cases h with
  | str z => exact .str z
  | non => exact .non
  | int i => exact .int i
  | bl b => exact .bl b
  | box n b =>
    cases b with
    | lst h => exact .box n (.lst (k _ rfl _ h))
    | tup h => exact .box n (.tup (k _ rfl _ h))
    | dic h => exact .box n (.dic (k _ rfl _ h))
theorem Nm.frame {a : Addr} {G G' : Hp} {v : V} (h : Nm a G v) (k : ∀ p, v = .ref p → ∀ o, G p = some o → G' p = some o) : Nm a G' v := ⟨h.pl.frame k, h.len⟩
theorem PlV.off {a p : Addr} {G : Hp} (h : PlV a G (.ref p)) : p ≠ a := by
  cases h with
  | box n b => exact n
theorem CW.snoc {xs : List V} {ws : List Bool} {v : V} {b : Bool} (h : CW xs ws) (h1 : b = true → ∀ z, v = .str z → ¬ IsWord z ∨ z = "key") (h2 : b = false → (∃ z, v = .str z ∧ IsWord z ∧ z ≠ "key") ∨ ∃ j, j < xs.length ∧ ws[j]? = some true) : CW (xs ++ [v]) (ws ++ [b]) := by
  refine ⟨by rw [List.length_append, List.length_append, h.len]; rfl, fun i u w hu hw => ?_⟩
  rcases Nat.lt_or_ge i xs.length with hi | hi
  · rw [List.getElem?_append_left hi] at hu
    rw [List.getElem?_append_left (by rw [h.len]; exact hi)] at hw
    obtain ⟨a1, a2⟩ := h.at_ i u w hu hw
    refine ⟨a1, fun e => (a2 e).imp id fun ⟨j, hj, e2⟩ => ⟨j, hj, ?_⟩⟩
    rw [List.getElem?_append_left (by rw [h.len]; omega)]
    exact e2
  · have hl := (List.getElem?_eq_some_iff.mp hu).1
    rw [List.length_append] at hl
    have e : i = xs.length := by
      have : ([v] : List V).length = 1 := rfl
      omega
    subst e
    rw [List.getElem?_append_right (Nat.le_refl _), Nat.sub_self] at hu
    rw [← h.len, List.getElem?_append_right (Nat.le_refl _), Nat.sub_self] at hw
    cases hu
    cases hw
    refine ⟨h1, fun e => (h2 e).imp id fun ⟨j, hj, e2⟩ => ⟨j, hj, ?_⟩⟩
    rw [List.getElem?_append_left (by rw [h.len]; exact hj)]
    exact e2
theorem CW.copy {xs : List V} {ws : List Bool} {v : V} {j : Nat} (h : CW xs ws) (hx : xs[j]? = some v) : (∃ z, v = .str z ∧ IsWord z ∧ z ≠ "key") ∨ ∃ j, j < xs.length ∧ ws[j]? = some true := by
  have hj := (List.getElem?_eq_some_iff.mp hx).1
  obtain ⟨w, hw⟩ : ∃ w, ws[j]? = some w := ⟨_, List.getElem?_eq_getElem (by rw [h.len]; exact hj)⟩
  cases w with
  | true => exact .inr ⟨j, hj, hw⟩
  | false =>
    rcases (h.at_ j v false hx hw).2 rfl with h1 | ⟨i, hi, e⟩
    · exact .inl h1
    · exact .inr ⟨i, by omega, e⟩
/-! habits by some of their names -/
def inter {α : Type} : List α → List α → List α
  | a :: r, b :: t => a :: b :: inter r t
  | _, _ => []
theorem inter_vals : ∀ {vs zs : List V} {us ws : List Value}, Vals vs us → Vals zs ws → Vals (inter vs zs) (inter us ws)
  | _, _, _, _, .nil, _ => .nil
  | _, _, _, _, .cons _ _, .nil => .nil
  | _, _, _, _, .cons r t, .cons r2 t2 => .cons r (.cons r2 (inter_vals t t2))
theorem vals_rev3 : ∀ {vs : List V} {us : List Value}, Vals vs us → Vals vs.reverse us.reverse
  | _, _, .nil => .nil
  | _, _, .cons h r => by
    rw [List.reverse_cons, List.reverse_cons]
    exact Vals.append (vals_rev3 r) (.cons h .nil)
def gvpg : List V → List V → List V := fun vs zs => vs ++ inter zs [.str "stop", .str "one"]
def gvgp : List V → List V → List V := fun vs zs => vs ++ inter zs.reverse [.str "stop", .str "one"]
def gv0 : List V → List V → List V := fun vs zs => vs ++ ([.str "stop", .str "stop", .str "stop", .str "one"] ++ zs)
section
variable {f : Addr} {fd : FuncData}
theorem hb_pg (F : HabD K f fd) : ∃ mv : List Value, KBn K fd psH 1 ["present", "gone"] (fun us ws => us ++ inter ws mv) gvpg :=
  F.kbinds0 1 ["present", "gone"] [("lacking", .str "stop"), ("shared", .str "one")] (fun us mv ws => us ++ inter ws mv) (fun z => by cases z) (fun q h => by simp at h; rcases h with rfl | rfl <;> simp) (fun a b c => a.append (inter_vals c b)) fun D doc pm an cdv ct us mv ws h1 h2 h3 => match us, h1, mv, h2, ws, h3 with
    | [_], _, [_, _], _, [_, _], _ => ⟨_, _, _, _, _, _, rfl, rfl, _, _, _, _, _, _, rfl, rfl, rfl⟩
theorem hb_gp (F : HabD K f fd) : ∃ mv : List Value, KBn K fd psH 1 ["gone", "present"] (fun us ws => us ++ inter ws.reverse mv) gvgp :=
  F.kbinds0 1 ["gone", "present"] [("lacking", .str "stop"), ("shared", .str "one")] (fun us mv ws => us ++ inter ws.reverse mv) (fun z => by cases z) (fun q h => by simp at h; rcases h with rfl | rfl <;> simp) (fun a b c => a.append (inter_vals (vals_rev3 c) b)) fun D doc pm an cdv ct us mv ws h1 h2 h3 => match us, h1, mv, h2, ws, h3 with
    | [_], _, [_, _], _, [_, _], _ => ⟨_, _, _, _, _, _, rfl, rfl, _, _, _, _, _, _, rfl, rfl, rfl⟩
theorem hb_n (F : HabD K f fd) : ∃ mv : List Value, KBn K fd psH 1 [] (fun us ws => us ++ (mv ++ ws)) gv0 :=
  F.kbinds0 1 [] [("present", .str "stop"), ("lacking", .str "stop"), ("gone", .str "stop"), ("shared", .str "one")] (fun us mv ws => us ++ (mv ++ ws)) (fun z => by cases z) (fun q h => by simp at h; rcases h with rfl | rfl | rfl | rfl <;> simp) (fun a b c => a.append (b.append c)) fun D doc pm an cdv ct us mv ws h1 h2 h3 => match us, h1, mv, h2, ws, h3 with
    | [_], _, [_, _, _, _], _, [], _ => ⟨_, _, _, _, _, _, rfl, rfl, _, _, _, _, _, _, rfl, rfl, _, _, _, _, _, _, rfl, rfl, _, _, _, _, _, _, rfl, rfl, rfl⟩
theorem hb_4 (F : HabD K f fd) : ∃ mv : List Value, KBn K fd psH 1 ["present", "lacking", "gone", "shared"] (fun us ws => us ++ (ws ++ mv)) gv4 :=
  F.kbinds0 1 ["present", "lacking", "gone", "shared"] [] (fun us mv ws => us ++ (ws ++ mv)) (fun z => by cases z) (fun q h => by cases h) (fun a b c => a.append (c.append b)) fun D doc pm an cdv ct us mv ws h1 h2 h3 => match us, h1, mv, h2, ws, h3 with
    | [_], _, [], _, [_, _, _, _], _ => rfl
theorem hb_0 (F : HabD K f fd) : ∃ ds, Vals [.str "stop", .str "stop", .str "stop", .str "one"] ds ∧ Binds K fd psH ds :=
  F.binds0 1 (fun z => by cases z) rfl fun D doc pm an cdv ct us ks h1 h2 => match us, h1, ks, h2 with
    | [_], _, [_, _, _, _], _ => ⟨_, _, _, _, _, _, rfl, rfl, _, _, _, _, _, _, rfl, rfl, _, _, _, _, _, _, rfl, rfl, _, _, _, _, _, _, rfl, rfl, rfl⟩
end
def dflt : Hv := ⟨.str "stop", .str "stop", .str "stop", .str "one"⟩
theorem dflt_pl {a : Addr} {H : Hp} : PlH a H dflt := ⟨.str _, .str _, .str _, .str _⟩
/-- four texts that a copy can have -/
structure Good4 (p l g s : Str) : Prop where
  p : p ∈ (["stop", "keep", "replace", "merge"] : List Str)
  l : l ∈ (["stop", "skip", "make"] : List Str)
  g : g ∈ (["stop", "skip"] : List Str)
  s : s ∈ (["one", "all"] : List Str)
abbrev hv4 (p l g s : Str) : Hv := ⟨.str p, .str l, .str g, .str s⟩
theorem good4_w {p l g s : Str} (h : Good4 p l g s) : wrongs (hv4 p l g s) = [] := wrongs_nil.mpr fun x hx => by
  rcases List.mem_cons.mp hx with rfl | hx
  · exact decide_eq_true h.p
  rcases List.mem_cons.mp hx with rfl | hx
  · exact decide_eq_true h.l
  rcases List.mem_cons.mp hx with rfl | hx
  · exact decide_eq_true h.g
  rcases List.mem_cons.mp hx with rfl | hx
  · exact decide_eq_true h.s
  cases hx
theorem hv4_pl {a : Addr} {H : Hp} {p l g s : Str} : PlH a H (hv4 p l g s) := ⟨.str _, .str _, .str _, .str _⟩
theorem hv4_flat {p l g s : Str} : FlatH (hv4 p l g s) := ⟨rfl, rfl, rfl, rfl⟩
theorem sameH_me {p l g s : Str} : sameH (hv4 p l g s) (hv4 p l g s) = true := by
  have e : ∀ z : Str, eqV (.str z) (.str z) = true := fun z => by simp [eqV]
  have e2 : sameH (hv4 p l g s) (hv4 p l g s) = (eqV (.str p) (.str p) && (eqV (.str l) (.str l) && (eqV (.str g) (.str g) && (eqV (.str s) (.str s) && true)))) := rfl
  rw [e2, e, e, e, e]
  rfl
end
end Lw

set_option Elab.async false
set_option linter.all false
set_option maxRecDepth 100000
set_option maxHeartbeats 40000000
namespace Lw
open PySem PySem.Spec PyProof.Rows L2
section
variable {P : Program} {w : World} {K : PySem.W.Frag} {mg : Str → Option Value} {base : Heap}
/-! what is told is data -/
theorem shaped_of {ds : List PyData} (h : PyData.canLay0 (.tuple ds) = true) (h2 : PyData.depthAll ds = 0) : SeqAt.shaped (.tuple ds) = true := by
  have e2 : PyData.depth (.tuple ds) = 1 := by
    show PyData.depthAll ds + 1 = 1
    rw [h2]
  unfold SeqAt.shaped
  rw [h, e2]
  rfl
theorem lay_two {z : Str} (h : IsWord z) {d : PyData} (hd : PyData.canLay0 d = true) : PyData.canLay0 (.tuple [.str z, d]) = true := by
  have h3 : PyData.canLay0 (.str z) = true := by
    have := canLay_strs [z] (fun y hy => by rw [List.mem_singleton.mp hy]; exact h)
    have e : (PyData.canLay0 (.str z) && true) = true := this
    simpa using e
  show (PyData.canLay0 (.str z) && (PyData.canLay0 d && true)) = true
  rw [h3, hd]
  rfl
theorem hab_word {z : Str} (h : z ∈ habNames) : IsWord z := by
  have e : ∀ z ∈ habNames, isWordB z = true := by decide +kernel
  exact (isWordB_iff z).mp (e z h)
theorem val_word {z n : Str} (h : z ∈ valsOf n) : IsWord z := by
  have e : ∀ z ∈ (["stop", "keep", "replace", "merge", "skip", "make", "one", "all"] : List Str), isWordB z = true := by decide +kernel
  refine (isWordB_iff z).mp (e z ?_)
  unfold valsOf at h
  split at h
  · simp only [List.mem_cons, List.not_mem_nil, or_false] at h ⊢
    rcases h with rfl | rfl | rfl | rfl <;> simp
  split at h
  · simp only [List.mem_cons, List.not_mem_nil, or_false] at h ⊢
    rcases h with rfl | rfl | rfl <;> simp
  split at h
  · simp only [List.mem_cons, List.not_mem_nil, or_false] at h ⊢
    rcases h with rfl | rfl <;> simp
  · simp only [List.mem_cons, List.not_mem_nil, or_false] at h ⊢
    rcases h with rfl | rfl <;> simp
theorem gd_str {ts : List Str} {v : V} (h : gdL ts v = true) : ∃ z, v = .str z ∧ z ∈ ts := by
  cases v with
  | str z => exact ⟨z, rfl, of_decide_eq_true h⟩
  | _ => cases h
theorem tgt_lay (i : Int) : PyData.canLay0 (.tuple [.str "target", .int i]) = true := lay_two ⟨by decide, by decide, by decide⟩ rfl
def IsD (K : PySem.W.Frag) (R : List V) (ds : List PyData) : Prop := (∀ H, DpAll K H R ds) ∧ PyData.canLay0 (.tuple ds) = true ∧ PyData.depthAll ds = 0
theorem isd_tgt (i : Int) : IsD K [.str "target", .int i] [.str "target", .int i] := ⟨fun H => .cons (.str _) (.cons (.int _) .nil), tgt_lay i, rfl⟩
theorem isd_strs {zs : List Str} (h : ∀ z ∈ zs, IsWord z) : IsD K (zs.map V.str) (zs.map PyData.str) := ⟨fun H => dp_strs _, canLay_strs zs h, depth_strs zs⟩
theorem told_data {nm : V} {xs : List V} {y : Hv} : ∃ ds, IsD K (toldR nm xs y) ds := by
  cases hn : badName nm with
  | true =>
    rw [told_name hn]
    exact ⟨_, isd_tgt _⟩
  | false =>
    cases hb : badAt xs with
    | some i =>
      rw [told_col hn hb]
      exact ⟨_, isd_tgt _⟩
    | none =>
      cases hw : wrongs y with
      | cons z r =>
        rw [told_hab hn hb hw]
        have hz : z ∈ habNames := (List.mem_filter.mp (show z ∈ wrongs y by rw [hw]; exact List.mem_cons_self)).1
        exact ⟨_, isd_strs (zs := ["habit", z]) fun x hx => by
          rcases List.mem_cons.mp hx with rfl | hx
          · exact ⟨by decide, by decide, by decide⟩
          · rw [List.mem_singleton.mp hx]
            exact hab_word hz⟩
      | nil =>
        rw [told_fine hn hb hw]
        have g := wrongs_nil.mp hw
        obtain ⟨z1, e1, m1⟩ := gd_str (show gdL (valsOf "present") y.pr = true from g "present" (by decide))
        obtain ⟨z2, e2, m2⟩ := gd_str (show gdL (valsOf "lacking") y.la = true from g "lacking" (by decide))
        obtain ⟨z3, e3, m3⟩ := gd_str (show gdL (valsOf "gone") y.go = true from g "gone" (by decide))
        obtain ⟨z4, e4, m4⟩ := gd_str (show gdL (valsOf "shared") y.sh = true from g "shared" (by decide))
        rw [e1, e2, e3, e4]
        exact ⟨_, isd_strs (zs := [z1, z2, z3, z4]) fun x hx => by
          simp only [List.mem_cons, List.not_mem_nil, or_false] at hx
          rcases hx with rfl | rfl | rfl | rfl
          · exact val_word m1
          · exact val_word m2
          · exact val_word m3
          · exact val_word m4⟩
/-- t != u, both tuples told alike -/
theorem ne_told {G : Hp} {t u : Addr} {R : List V} {ds : List PyData} {Q : VK} (d : IsD K R ds) (ht : G t = some (.tup R)) (hu : G u = some (.tup R)) (q : Q (.bl false) G) : rNeD K (.ref t) (.ref u) G Q := by
  refine ⟨.tuple ds, .tuple ds, .tup (SqT.of ht) (d.1 G), .tup (SqT.of hu) (d.1 G), shaped_of d.2.1 d.2.2, shaped_of d.2.1 d.2.2, ?_⟩
  rw [PySem.SeqAt.eqv_refl _ d.2.1]
  exact q
theorem bad_two {z1 z2 : Str} (h1 : IsWord z1) (h2 : IsWord z2) (n1 : z1 ≠ "key") (n2 : z2 ≠ "key") : badAt [.str z1, .str z2] = if z1 = z2 then some 1 else none := by
  have b0 : badC [.str z1, .str z2] 0 = false := by
    show (!isWordB z1 || (decide (z1 = "key") || inV (.str z1) [])) = false
    rw [isWordB_true h1, decide_eq_false n1]
    rfl
  have b1 : badC [.str z1, .str z2] 1 = decide (z1 = z2) := by
    show (!isWordB z2 || (decide (z2 = "key") || inV (.str z2) (([z1] : List Str).map V.str))) = decide (z1 = z2)
    rw [isWordB_true h2, decide_eq_false n2, inV_str]
    show decide (z2 ∈ [z1]) = decide (z1 = z2)
    exact decide_eq_decide.mpr (by rw [List.mem_singleton]; exact eq_comm)
  by_cases e : z1 = z2
  · rw [if_pos e]
    refine bad_some (by show 1 < 2; decide) (by rw [b1]; exact decide_eq_true e) fun j hj => ?_
    rw [show j = 0 by omega]
    exact b0
  · rw [if_neg e]
    refine bad_none fun j hj => ?_
    have hj : j < 2 := hj
    have h : j = 0 ∨ j = 1 := by omega
    rcases h with rfl | rfl
    · exact b0
    · rw [b1]
      exact decide_eq_false e
theorem bad_one {z : Str} (h : IsWord z) (n : z ≠ "key") : badAt [.str z] = none := by
  refine bad_none fun j hj => ?_
  have hj : j < 1 := hj
  rw [show j = 0 by omega]
  show (!isWordB z || (decide (z = "key") || inV (.str z) [])) = false
  rw [isWordB_true h, decide_eq_false n]
  rfl
theorem TgtAt.same {CG CH q : Addr} {H G : Hp} {nm : V} {xs : List V} {y : Hv} (s : Same H G) (h : TgtAt CG CH H q nm xs y) : TgtAt CG CH G q nm xs y := by
  obtain ⟨dx, t, hh, h1, h2, dy, h3⟩ := h
  exact ⟨dx, t, hh, s _ _ h1, s _ _ h2, dy, s _ _ h3⟩
theorem TgtAt.set {CG CH q m : Addr} {H : Hp} {o : HO} {nm : V} {xs ys : List V} {y : Hv} (hm : H m = some (.lst ys)) (h : TgtAt CG CH H q nm xs y) : TgtAt CG CH (upd H m o) q nm xs y := by
  obtain ⟨dx, t, hh, h1, h2, dy, h3⟩ := h
  refine ⟨dx, t, hh, ?_, ?_, dy, ?_⟩
  · rw [upd_ne (fun e => by rw [e, hm] at h1; cases h1)]
    exact h1
  · rw [upd_ne (fun e => by rw [e, hm] at h2; cases h2)]
    exact h2
  · rw [upd_ne (fun e => by rw [e, hm] at h3; cases h3)]
    exact h3
theorem hv_set {y : Hv} {x : V} {j : Nat} (hj : j < 4) : ∃ y' : Hv, ([y.pr, y.la, y.go, y.sh] : List V).set j x = [y'.pr, y'.la, y'.go, y'.sh] ∧ ∀ P : V → Prop, P y.pr → P y.la → P y.go → P y.sh → P x → P y'.pr ∧ P y'.la ∧ P y'.go ∧ P y'.sh := by
  have h : j = 0 ∨ j = 1 ∨ j = 2 ∨ j = 3 := by omega
  rcases h with rfl | rfl | rfl | rfl
  · exact ⟨⟨x, y.la, y.go, y.sh⟩, rfl, fun P a b c d e => ⟨e, b, c, d⟩⟩
  · exact ⟨⟨y.pr, x, y.go, y.sh⟩, rfl, fun P a b c d e => ⟨a, e, c, d⟩⟩
  · exact ⟨⟨y.pr, y.la, x, y.sh⟩, rfl, fun P a b c d e => ⟨a, b, e, d⟩⟩
  · exact ⟨⟨y.pr, y.la, y.go, x⟩, rfl, fun P a b c d e => ⟨a, b, c, e⟩⟩
theorem of_all {y : Hv} {P : V → Prop} (h : P y.pr ∧ P y.la ∧ P y.go ∧ P y.sh) (n : Str) : P (y.of n) := by
  unfold Hv.of
  split
  · exact h.1
  split
  · exact h.2.1
  split
  · exact h.2.2.1
  · exact h.2.2.2
/-- Habits(..) of good values -/
theorem hab_new {CH CB a : Addr} {E : XK} {R : Addr → Hp → Prop} {H : Hp} {y : Hv} (e0 : wrongs y = []) (py : PlH a H y) (k : ∀ q G, Same H G → H q = none → HabAtV CH G q y → R q G) :
    ∀ x dx, H x = none → H dx = none → dx ≠ x → spHabV CH CB [.ref x, y.pr, y.la, y.go, y.sh] (upd (upd H dx (.own x)) x (.ins CH dx [])) (fun v H2 => v = .non ∧ R x H2) E := by
  intro x dx nx ndx ne
  have sI := same_ins3 (o := .own x) (u := .ins CH dx []) nx ndx
  exact ⟨x, dx, a, y, rfl, upd_same, py.same sI, fun z r e => (by rw [e0] at e; cases e), fun _ G kG hab => ⟨rfl, k x G (keep_ins3 nx ndx kG) nx hab⟩⟩
end
end Lw

set_option Elab.async false
set_option linter.all false
set_option maxRecDepth 100000
set_option maxHeartbeats 40000000
namespace Lw
open PySem PySem.Spec PyProof.Rows L2
abbrev sLaw : Stmt := top 31
section
variable {P : Program} {w : World} {K : PySem.W.Frag} {mg : Str → Option Value} {base : Heap}
theorem sq_asg3 {te : TE} {u : TS} {D : Ends} {σ : L2.St} {H : Hp} {i j l : Nat} {K : PySem.W.Frag} (P : V → V → V → Hp → Prop) (h : ∀ Q : VK, (∀ t x y z H', H' t = some (.tup [x, y, z]) → P x y z H' → Q (.ref t) H') → te σ H Q)
    (k : ∀ x y z H', P x y z H' → u D (((σ.set i (some x)).set j (some y)).set l (some z)) H') : tSeq (tAsg te (gTup K 3 (gCons (gName i) (gCons (gName j) (gCons (gName l) gNil))))) u D σ H :=
  h _ fun t x y z H' ht p => ⟨t, _, rfl, SqT.of ht, rfl, x, _, rfl, y, _, rfl, z, _, rfl, rfl, k x y z H' p⟩
theorem sq_par3 {ta : TA} {u : TS} {D : Ends} {σ : L2.St} {H : Hp} {i j l : Nat} (P : V → V → V → Hp → Prop) (h : ∀ Q : List V → Hp → Prop, (∀ x y z H', P x y z H' → Q [x, y, z] H') → ta σ H Q) (k : ∀ x y z H', P x y z H' → u D (((σ.set i (some x)).set j (some y)).set l (some z)) H') : tSeq (tPar3 i j l ta) u D σ H :=
  h _ fun x y z H' p => ⟨x, y, z, rfl, k x y z H' p⟩
theorem ixN_n {n j : Nat} (hj : j < n) : ixN n (j : Int) = some j := by
  unfold ixN
  rw [if_pos (by omega), if_pos (by omega), Int.toNat_natCast]
/-! the law -/
def Bas (H0 : Hp) (p : Addr) (H : Hp) : Prop := ∀ b o, H0 b = some o → b ≠ p ∧ H b = some o
theorem Bas.keep {H0 H H' : Hp} {p : Addr} (h : Bas H0 p H) (k : Keep p H H') : Bas H0 p H' := fun b o e => ⟨(h b o e).1, k b o (h b o e).1 (h b o e).2⟩
theorem Bas.out {H0 H : Hp} {p : Addr} (h : Bas H0 p H) : Same H0 H := fun b o e => (h b o e).2
theorem Bas.set {H0 H : Hp} {p b : Addr} {o : HO} (h : Bas H0 p H) (n : H0 b = none) : Bas H0 p (upd H b o) := fun c u e => ⟨(h c u e).1, by rw [upd_ne (ne_of_none e n)]; exact (h c u e).2⟩
theorem Bas.new {H0 H : Hp} {p b : Addr} (h : Bas H0 p H) (n : H b = none) : H0 b = none := by
  cases e : H0 b with
  | none => rfl
  | some u => have := (h b u e).2; rw [n] at this; cases this
structure Cals15 (P : Program) (w : World) (K : PySem.W.Frag) (mg : Str → Option Value) (base : Heap) (CG CH CB CT : Addr) : Prop where
  source : Cal P w K mg base CX0 "_law_source" 1 ["script", "place"] (spSource K)
  draw : Cal P w K mg base CX0 "_law_draw" 1 ["source", "many"] spDraw
  of : Cal P w K mg base CX0 "_law_of" 2 ["source", "some"] (spOf K)
  word : Cal P w K mg base CX0 "_law_word" 2 ["source", "taken"] (spWord K)
  odd : Cal P w K mg base CX0 "_law_odd" 3 ["source"] spOddF
  told : Cal P w K mg base CX0 "_law_told" 8 ["name", "columns", "habits"] spTold15
  due : Cal P w K mg base CX0 "_law_due" 1 ["name", "columns", "wrong", "habits"] spDue15
  tgt : ∃ fG, Mk K CG fG ∧ Kw.FnKw P w K mg base (L2N.CX P w) 6 fG [] (spTgt CG CH CB CT [] gv0) ∧ Kw.FnKw P w K mg base (L2N.CX P w) 6 fG ["gone", "present"] (spTgt CG CH CB CT ["gone", "present"] gvgp)
  habits : ∃ fH fdH, Mk K CH fH ∧ HabD K fH fdH ∧ FnOk P w K mg base (L2N.CX P w) 4 fH fdH psH (spHabV CH CB)
  eqH : ∃ f fd, Oq.EqC K CH f ∧ FnOk P w K mg base CX0 2 f fd ["self", "other"] (spHabE CH) ∧ Binds K fd ["self", "other"] []
  nfH : PySem.W.notFirst K CH (.ref CH) = true
  tg : Cls K CG ∧ NoAttr K CG "name" ∧ NoAttr K CG "columns" ∧ NoAttr K CG "habits"
  hb : TxtHb K CH
  hc : TxtHc K CH
  gG : mg "Target" = some (.ref CG)
  gH : mg "Habits" = some (.ref CH)
  isi : mg "isinstance" = none
  list : mg "list" = none
  tuple : mg "tuple" = none
  range : mg "range" = none
  max : mg "max" = none
  min : mg "min" = none
  len : mg "len" = none
def spLaw (K : PySem.W.Frag) : Sp := fun vs H Q _ => ∃ (a : Addr) (ns : List Int), vs = [.ref a] ∧ SqL K H a (ns.map V.int) ∧ ns.length ≤ 63 ∧ ∀ H', Q (.bl true) H'
abbrev nLaw : List Str := ["script", "place", "source", "name", "columns", "wrong", "turn", "habits", "right", "odd", "passed", "one", "two", "mine", "plain", "part"]
theorem pass_no {X : Cx} : Passes (L2N.CX X.prog X.w) X (fun _ _ _ => False) := fun _ _ _ _ _ _ _ c => by
  obtain ⟨_, _, _, _, _, _, _, _, _, _, _, _, z⟩ := c
  exact z.elim
theorem scLaw : FnScope nLaw ["script"] (defScope sLaw) := ⟨rfl, rfl, rfl, by decide +kernel, rfl, by decide +kernel, by decide +kernel⟩
theorem ok_law {CG CH CB CT f : Addr} {fd : FuncData} (F : FnP K "law" sLaw f fd) (c : Cals15 P w K mg base CG CH CB CT) : FnOk P w K mg base CX0 9 f fd ["script"] (spLaw K) := by
  obtain ⟨fG, MG, FG0, FG2⟩ := c.tgt
  obtain ⟨fH, fdH, MH, DH, FH⟩ := c.habits
  obtain ⟨fE, fdE, EH, FE, bE⟩ := c.eqH
  obtain ⟨ds, vH, bH⟩ := hb_0 DH
  obtain ⟨mpg, kpg⟩ := hb_pg DH
  obtain ⟨clG, g1, g2, g3⟩ := c.tg
  refine F.ok scLaw (fun vs H Q E h => ?_) (fun cdv A outer s0 H vs Q E hr h => ?_)
  · obtain ⟨a, ns, rfl, _⟩ := h
    rfl
  · obtain ⟨a, ns, rfl, hS, hlen, k⟩ := h
    have nd := scLaw.nd
    have h1 : Room 1 _ := hr.mono (by decide)
    have h2 : Room 2 _ := hr.mono (by decide)
    have h3 : Room 3 _ := hr.mono (by decide)
    have h5 : Room 5 _ := hr.mono (by decide)
    have h7 : Room 7 _ := hr.mono (by decide)
    have hu := hu_of hr
    refine ⟨_, PSs.nox (pss_cons (ps_for PassesOwn.never rfl (pi_range1 rfl c.range (pa_cons (pe_callB (call_max2 rfl) (by rfl) c.max (by decide +kernel) (pa_cons pe_int (pa_cons (pe_callB (call_min2 rfl) (by rfl) c.min (by decide +kernel) (pa_cons pe_int (pa_cons (pe_callB call_len_seq (by rfl) c.len PySem.boot_len (pa_cons (pv 0) pa_nil)) pa_nil))) pa_nil))) pa_nil)) (pg_name (i := 1) nd rfl (Or.inl rfl)) (pss_cons (ps_set (i := 2) nd rfl (Or.inl rfl) (pe_cal c.source h1 (pa_cons (pv 0) (pa_cons (pv 1) pa_nil))))
      (pss_cons (ps_par3 (i := 3) (j := 4) (l := 5) (by rfl) nd rfl rfl rfl (by decide) (by decide) (by decide) rfl rfl rfl (pa_cons (pe_cal c.word h2 (pa_cons (pv 2) (pa_cons (pe_lst (pa_cons pe_str (pa_cons pe_str pa_nil))) pa_nil))) (pa_cons (pe_lst pa_nil) (pa_cons (pe_lst pa_nil) pa_nil))) (by rfl))
      (pss_cons (ps_for PassesOwn.never rfl (pi_range1 rfl c.range (pa_cons (pe_cal c.draw h1 (pa_cons (pv 2) (pa_cons pe_int pa_nil))) pa_nil)) (pg_name (i := 6) nd rfl (Or.inl rfl)) (pss_cons (ps_expr (pe_bm PySem.F.plainAttrs_list PySem.F.slot_list_append PySem.F.type_list_append mt_append (pv 5) (pa_cons (pe_cmpR op_eq (pe_cal c.draw h1 (pa_cons (pv 2) (pa_cons pe_int pa_nil))) pe_int (nomark _)) pa_nil)))
      (pss_cons (ps_expr (pe_bm PySem.F.plainAttrs_list PySem.F.slot_list_append PySem.F.type_list_append mt_append (pv 4) (pa_cons (pe_cal c.word h2 (pa_cons (pv 2) (pa_cons (pe_lst (pa_cons pe_str pa_nil)) pa_nil))) pa_nil)))
      (pss_one (ps_if (pt_val (pe_ix (r := rIxL K) (by exact ix_list) (pv 5) (pv 6) (fun _ _ => rfl))) (pss_one (ps_asg (pe_cal c.of h2 (pa_cons (pv 2) (pa_cons (pe_lst (pa_cons (pe_cal c.odd h3 (pa_cons (pv 2) pa_nil)) (pa_cons pe_str pa_nil))) pa_nil))) (pg_sub (pv 4) (pv 6) set_list))) (pss_one (ps_if (PW.pt (pw_and (pt_cmpR op_gt (pv 6) pe_int (nomark _)) (pw_and1 (pt_cmpR op_eq (pe_cal c.draw h1 (pa_cons (pv 2) (pa_cons pe_int pa_nil))) pe_int (nomark _))))) (pss_one (ps_asg (pe_ix (r := rIxL K) (by exact ix_list) (pv 4) (pe_cal c.draw h1 (pa_cons (pv 2) (pa_cons (pv 6) pa_nil))) (fun _ _ => rfl)) (pg_sub (pv 4) (pv 6) set_list))) pss_nil)))))))
      (pss_cons (ps_set (i := 7) nd rfl (Or.inl rfl) (pe_lst (pa_cons (pe_cal c.of h2 (pa_cons (pv 2) (pa_cons (pe_lst (pa_cons pe_str (pa_cons pe_str (pa_cons pe_str (pa_cons pe_str (pa_cons pe_str pa_nil)))))) pa_nil))) (pa_cons (pe_cal c.of h2 (pa_cons (pv 2) (pa_cons (pe_lst (pa_cons pe_str (pa_cons pe_str (pa_cons pe_str pa_nil)))) pa_nil))) (pa_cons (pe_cal c.of h2 (pa_cons (pv 2) (pa_cons (pe_lst (pa_cons pe_str (pa_cons pe_str pa_nil))) pa_nil))) (pa_cons (pe_cal c.of h2 (pa_cons (pv 2) (pa_cons (pe_lst (pa_cons pe_str (pa_cons pe_str pa_nil))) pa_nil))) pa_nil))))))
      (pss_cons (ps_set (i := 8) nd rfl (Or.inl rfl) (pe_callTy call_list_of (by rfl) c.list (by decide +kernel) (pa_cons (pv 7) pa_nil)))
      (pss_cons (ps_for PassesOwn.never rfl (pi_range1 rfl c.range (pa_cons (pe_cal c.draw h1 (pa_cons (pv 2) (pa_cons pe_int pa_nil))) pa_nil)) (pg_name (i := 6) nd rfl (Or.inl rfl)) (pss_cons (ps_set (i := 9) nd rfl (Or.inl rfl) (pe_cal c.of h2 (pa_cons (pv 2) (pa_cons (pe_lst (pa_cons pe_str (pa_cons pe_str (pa_cons pe_str (pa_cons pe_str (pa_cons pe_str (pa_cons pe_str (pa_cons pe_str (pa_cons pe_str (pa_cons pe_non (pa_cons pe_int (pa_cons pe_bl (pa_cons (pe_tup (pa_cons pe_str pa_nil)) (pa_cons (pe_lst pa_nil) pa_nil)))))))))))))) pa_nil))))
      (pss_one (ps_asg (pv 9) (pg_sub (pv 7) (pe_cal c.draw h1 (pa_cons (pv 2) (pa_cons pe_int pa_nil))) set_list)))))
      (pss_cons (ps_set (i := 10) nd rfl (Or.inl rfl) (pe_ifExp (pt_cmpR op_eq (pe_cal c.draw h1 (pa_cons (pv 2) (pa_cons pe_int pa_nil))) pe_int (nomark _)) (pe_callTy call_list_of (by rfl) c.list (by decide +kernel) (pa_cons (pv 4) pa_nil)) (pe_callTy call_tuple_of (by rfl) c.tuple (by decide +kernel) (pa_cons (pv 4) pa_nil))))
      (pss_cons (ps_if (pt_cmpR (r := rNeD K) (by exact op_neD hr.units) (pe_cal c.told hr (pa_cons (pv 3) (pa_cons (pv 10) (pa_cons (pv 7) pa_nil)))) (pe_cal c.due h1 (pa_cons (pv 3) (pa_cons (pv 4) (pa_cons (pv 5) (pa_cons (pv 7) pa_nil))))) (nomark _)) (pss_one (ps_ret pe_bl)) pss_nil)
      (pss_cons (ps_set (i := 9) nd rfl (Or.inl rfl) (pe_cal c.of h2 (pa_cons (pv 2) (pa_cons (pe_lst (pa_cons (pe_cal c.odd h3 (pa_cons (pv 2) pa_nil)) (pa_cons pe_str (pa_cons pe_str pa_nil)))) pa_nil))))
      (pss_cons (ps_if (PW.pt (pw_or (pt_cmpR (r := rNeD K) (by exact op_neD hr.units) (pe_cal c.told hr (pa_cons (pv 9) (pa_cons (pv 10) (pa_cons (pv 7) pa_nil)))) (pe_tup (pa_cons pe_str (pa_cons (pe_un un_neg pe_int) pa_nil))) (nomark _)) (pw_or1 (pt_cmpR (r := rNeD K) (by exact op_neD hr.units) (pe_cal c.told hr (pa_cons (pv 3) (pa_cons (pe_lst pa_nil) (pa_cons (pv 7) pa_nil)))) (pe_cal c.due h1 (pa_cons (pv 3) (pa_cons (pe_lst pa_nil) (pa_cons (pe_lst pa_nil) (pa_cons (pv 7) pa_nil))))) (nomark _))))) (pss_one (ps_ret pe_bl)) pss_nil)
      (pss_cons (ps_par (i := 11) (j := 12) (by rfl) nd rfl rfl (by decide) rfl rfl (pa_cons (pe_cal c.word h2 (pa_cons (pv 2) (pa_cons (pe_lst (pa_cons pe_str pa_nil)) pa_nil))) (pa_cons (pe_cal c.word h2 (pa_cons (pv 2) (pa_cons (pe_lst (pa_cons pe_str pa_nil)) pa_nil))) pa_nil)) (by rfl))
      (pss_cons (ps_set (i := 12) nd rfl (Or.inl rfl) (pe_ifExp (pt_cmpR op_eq (pe_cal c.draw h1 (pa_cons (pv 2) (pa_cons pe_int pa_nil))) pe_int (nomark _)) (pv 11) (pv 12)))
      (pss_cons (ps_if (pt_cmpR (r := rNeD K) (by exact op_neD hr.units) (pe_cal c.told hr (pa_cons (pv 3) (pa_cons (pe_lst (pa_cons (pv 11) (pa_cons (pv 12) pa_nil))) (pa_cons (pv 8) pa_nil)))) (pe_ifExp (pt_cmpR op_eq (pv 11) (pv 12) (nomark _)) (pe_tup (pa_cons pe_str (pa_cons pe_int pa_nil))) (pe_callTy call_tuple_of (by rfl) c.tuple (by decide +kernel) (pa_cons (pv 8) pa_nil))) (nomark _)) (pss_one (ps_ret pe_bl)) pss_nil)
      (pss_cons (ps_set (i := 13) nd rfl (Or.inl rfl) (pe_lst (pa_cons (pv 11) pa_nil)))
      (pss_cons (ps_par (i := 14) (j := 15) (by rfl) nd rfl rfl (by decide) rfl rfl (pa_cons (Kw.pe_makeKw MG FG0 h7 (by rfl) c.gG pass_no (pa_cons (pv 3) (pa_cons (pv 13) pa_nil)) pk_nil) (pa_cons (Kw.pe_makeKw MG FG2 h7 (by rfl) c.gG pass_no (pa_cons (pv 3) (pa_cons (pe_lst (pa_cons (pv 11) pa_nil)) pa_nil)) (pk_cons (pe_ix (r := rIxL K) (by exact ix_list) (pv 8) pe_int (fun _ _ => rfl)) (pk_cons (pe_ix (r := rIxL K) (by exact ix_list) (pv 8) pe_int (fun _ _ => rfl)) pk_nil))) pa_nil)) (by rfl))
      (pss_cons (ps_expr (pe_bm PySem.F.plainAttrs_list PySem.F.slot_list_append PySem.F.type_list_append mt_append (pv 13) (pa_cons (pv 12) pa_nil)))
      (pss_cons (ps_if (PW.pt (pw_or (pt_cmpR (r := rNeD K) (by exact op_neD hr.units) (pe_fld (pv 14) (by rfl)) (pe_tup (pa_cons (pv 11) pa_nil)) (nomark _)) (pw_or (pt_cmpR (r := Oq.rOwn K CH (spHabE CH) Bool.not) (by exact Oq.op_neI EH FE bE h3) (pe_fld (pv 14) (by rfl)) (pe_make0 MH FH h5 (by rfl) c.gH bH vH pass_no) (nomark _)) (pw_or1 (pt_not (pt_val (pe_callB call_isi (by rfl) c.isi (by decide +kernel) (pa_cons (pe_fld (pv 14) (by rfl)) (pa_cons (pe_glob (v := .ref CH) rfl c.gH rfl) pa_nil))))))))) (pss_one (ps_ret pe_bl)) pss_nil)
      (pss_cons (ps_if (PW.pt (pw_or (pt_cmpR (r := Oq.rOwn K CH (spHabE CH) Bool.not) (by exact Oq.op_neI EH FE bE h3) (pe_fld (pv 15) (by rfl)) (pe_makeK0 MH FH h5 (by rfl) c.gH kpg pass_no (pk_cons (pe_ix (r := rIxL K) (by exact ix_list) (pv 8) pe_int (fun _ _ => rfl)) (pk_cons (pe_ix (r := rIxL K) (by exact ix_list) (pv 8) pe_int (fun _ _ => rfl)) pk_nil))) (nomark _)) (pw_or1 (pt_cmpR op_ne (pe_fld (pe_fld (pv 15) (by rfl)) (by rfl)) pe_str (nomark _))))) (pss_one (ps_ret pe_bl)) pss_nil)
      (pss_one (ps_if (PW.pt (pw_or (pt_cmpR op_ne (pe_fld (pe_fld (pv 14) (by rfl)) (by rfl)) pe_str (nomark _)) (pw_or (pt_cmpR op_ne (pe_fld (pe_fld (pv 14) (by rfl)) (by rfl)) pe_str (nomark _)) (pw_or1 (pt_cmpR op_ne (pe_fld (pe_fld (pv 14) (by rfl)) (by rfl)) pe_str (nomark _)))))) (pss_one (ps_ret pe_bl)) pss_nil)))))))))))))))))))))
      (pss_one (ps_ret pe_bl))), ?_⟩
    have hb : ∀ L : Int, 0 ≤ L → 1 ≤ (if (if L < 30 then L else 30) > 1 then (if L < 30 then L else 30) else 1) ∧ (if (if L < 30 then L else 30) > 1 then (if L < 30 then L else 30) else 1) ≤ 30 := fun L h => by split <;> split <;> omega
    have hb2 := hb (((ns.map V.int).length : Nat) : Int) (by omega)
    have h9 : sizeLine = 16777216 := by decide
    refine ⟨_, rfl, a, _, rfl, .inl hS, _, _, rfl, _, _, rfl, _, rfl, by omega, by omega, ?_⟩
    refine for_range (lo := 0) (fun j σ H' => ∃ v1 v2 v3 v4 v5 v6 v7 v8 v9 v10 v11 v12 v13 v14 v15 : Option V, σ = [some (.ref a), v1, v2, v3, v4, v5, v6, v7, v8, v9, v10, v11, v12, v13, v14, v15] ∧ Same H H') ⟨_, _, _, _, _, _, _, _, _, _, _, _, _, _, _, rfl, Same.refl H⟩ ?_ ?_
    · rintro j σ H' hj ⟨v1, v2, v3, v4, v5, v6, v7, v8, v9, v10, v11, v12, v13, v14, v15, rfl, sH⟩
      have hj2 : (j : Int) < 30 := by omega
      refine g_name ?_
      refine sq_set (fun x H1 => ∃ p, x = .ref p ∧ Bas H p H1 ∧ Src H1 p 0) (fun Q q => ?_) ?_
      · refine ⟨_, rfl, _, rfl, a, ns, _, rfl, sH.seq hS, by omega, by omega, by omega, fun p H1 np s1 hs => q _ _ ⟨p, rfl, fun b o e => ⟨ne_of_none (sH b o e) np, s1 b o (sH b o e)⟩, hs⟩⟩
      rintro _ H1 ⟨p, rfl, B1, S1⟩
      refine sq_par3 (fun x y z G => ∃ (nz : Str) (c w : Addr), x = .str nz ∧ y = .ref c ∧ z = .ref w ∧ IsWord nz ∧ nz ∉ (["table", "key"] : List Str) ∧ c ≠ p ∧ w ≠ p ∧ c ≠ w ∧ G c = some (.lst []) ∧ G w = some (.lst []) ∧ H c = none ∧ H w = none ∧ Bas H p G ∧ Src G p 10) (fun Q q => ?_) ?_
      · refine ⟨_, rfl, (by show 2 ≤ sizeLine; decide), fun l nl => ⟨p, l, _, ["table", "key"], rfl, S1.new nl, by decide, S1.ne nl, SqL.of upd_same, by decide, fun G2 nz k2 s2 hz hn => ⟨(by show 0 ≤ sizeLine; decide), fun c nc => ⟨(by show 0 ≤ sizeLine; decide), fun w nw => ?_⟩⟩⟩⟩
        have B2 : Bas H p G2 := (B1.keep ((Keep.refl _).new nl)).keep k2
        have cw : c ≠ w := fun e => by rw [← e, upd_same] at nw; cases nw
        have nw2 : G2 w = none := by rw [upd_ne cw.symm] at nw; exact nw
        have B3 := B2.keep ((Keep.refl _).new (o := .lst []) nc)
        exact q _ _ _ _ ⟨nz, c, w, rfl, rfl, rfl, hz, hn, s2.ne nc, s2.ne nw2, cw, by rw [upd_ne cw]; exact upd_same, upd_same, B2.new nc, B2.new nw2, B3.keep ((Keep.refl _).new nw), ((s2.new nc).new nw).mono (by decide)⟩
      rintro _ _ _ G1 ⟨nz, c0, w0, rfl, rfl, rfl, hz, hnz, cp, wp, cw, gc1, gw1, Hc, Hw, B1, S1⟩
      have hname := good_name hz hnz
      refine ⟨_, rfl, p, _, _, rfl, S1, by omega, by decide, by decide, fun G2 nk k2 s2 i0 i1 => ⟨_, rfl, by omega, by omega, ?_⟩⟩
      have nk3 : nk.toNat ≤ 3 := by omega
      refine for_range (lo := 0) (fun i σ G => ∃ (v1 v6 v7 v8 v9 v10 v11 v12 v13 v14 v15 : Option V) (xs : List V) (ws : List Bool), σ = [some (.ref a), v1, some (.ref p), some (.str nz), some (.ref c0), some (.ref w0), v6, v7, v8, v9, v10, v11, v12, v13, v14, v15] ∧ G c0 = some (.lst xs) ∧ G w0 = some (.lst (ws.map V.bl)) ∧ CW xs ws ∧ xs.length = i ∧ (∀ v ∈ xs, Nm p G v ∧ v ≠ .ref c0 ∧ v ≠ .ref w0) ∧ Bas H p G ∧ Src G p (11 + 30 * i))
        ⟨_, _, _, _, _, _, _, _, _, _, _, [], [], rfl, k2 _ _ cp gc1, k2 _ _ wp gw1, CW.nil, rfl, fun _ h => (List.not_mem_nil h).elim, B1.keep k2, s2⟩ ?_ ?_
      · rintro i σ G hi ⟨v1, v6, v7, v8, v9, v10, v11, v12, v13, v14, v15, xs, ws, rfl, gc, gw, cw0, lx, hxs, BG, SG⟩
        have i3 : i < 3 := by omega
        refine g_name ?_
        rw [Int.zero_add]
        refine sq_do (fun x G2 => ∃ (b : Bool), G2 w0 = some (.lst ((ws ++ [b]).map V.bl)) ∧ G2 c0 = some (.lst xs) ∧ (∀ v ∈ xs, Nm p G2 v ∧ v ≠ .ref c0 ∧ v ≠ .ref w0) ∧ Bas H p G2 ∧ Src G2 p (12 + 30 * i)) (fun Q q => ?_) ?_
        · refine ⟨_, rfl, .inl ⟨rfl, _, SqL.of gw⟩, _, rfl, p, _, _, rfl, SG, by omega, by decide, by decide, fun G2 kk k2 s2 k0 k1 => ⟨rfl, w0, ws.map V.bl, .bl _, rfl, rfl, k2 _ _ wp gw, by rw [List.length_map, cw0.len]; omega, ?_⟩⟩
          refine q _ _ ⟨decide (V.int kk = V.int 0), by rw [upd_same, List.map_append]; rfl, by rw [upd_ne cw]; exact k2 _ _ cp gc, fun v hv => ?_, (BG.keep k2).set Hw, ?_⟩
          · obtain ⟨a1, a2, a3⟩ := hxs v hv
            exact ⟨(a1.keep k2).frame fun q e o h => by rw [upd_ne (fun z => a3 (by rw [e, z]))]; exact h, a2, a3⟩
          · obtain ⟨x1, x2, x3, y1, y2⟩ := s2.mono (show 11 + 30 * i + 1 ≤ 12 + 30 * i by omega)
            exact ⟨x1, x2, x3, by rw [upd_ne wp.symm]; exact y1, y2⟩
        rintro _ G2 ⟨b, gw2, gc2, hxs2, B2, S2⟩
        refine sq_do (fun x G3 => ∃ z : Str, IsWord z ∧ z ≠ "key" ∧ G3 w0 = some (.lst ((ws ++ [b]).map V.bl)) ∧ G3 c0 = some (.lst (xs ++ [.str z])) ∧ (∀ v ∈ xs, Nm p G3 v ∧ v ≠ .ref c0 ∧ v ≠ .ref w0) ∧ Bas H p G3 ∧ Src G3 p (22 + 30 * i)) (fun Q q => ?_) ?_
        · refine ⟨_, rfl, .inl ⟨rfl, _, SqL.of gc2⟩, _, rfl, (by show 1 ≤ sizeLine; decide), fun l nl => ⟨p, l, _, ["key"], rfl, S2.new nl, by omega, S2.ne nl, SqL.of upd_same, by decide, fun G3 z k3 s3 hz3 hn3 => ⟨c0, xs, .str z, rfl, rfl, ?_, by omega, ?_⟩⟩⟩
          · exact k3 _ _ cp (((Keep.refl (a := p) G2).new nl) _ _ cp gc2)
          · have kA : Keep p G2 G3 := ((Keep.refl (a := p) G2).new nl).trans k3
            refine q _ _ ⟨z, hz3, fun e => hn3 (by rw [e]; exact List.mem_singleton.mpr rfl), by rw [upd_ne cw.symm]; exact kA _ _ wp gw2, upd_same, fun v hv => ?_, (B2.keep kA).set Hc, ?_⟩
            · obtain ⟨a1, a2, a3⟩ := hxs2 v hv
              exact ⟨(a1.keep kA).frame fun q e o h => by rw [upd_ne (fun z => a2 (by rw [e, z]))]; exact h, a2, a3⟩
            · obtain ⟨x1, x2, x3, y1, y2⟩ := s3.mono (show 12 + 30 * i + 10 ≤ 22 + 30 * i by omega)
              exact ⟨x1, x2, x3, by rw [upd_ne cp.symm]; exact y1, y2⟩
        rintro _ G3 ⟨z, hz3, nk3, gw4, gc4, hxs4, B4, S4⟩
        have wsl : ws.length = i := by rw [cw0.len, lx]
        have aw : atI ((ws ++ [b]).map V.bl) ((i : Nat) : Int) = some (.bl b) := atI_nat (by rw [List.map_append, List.getElem?_append_right (by rw [List.length_map, wsl]; exact Nat.le_refl _), List.length_map, wsl, Nat.sub_self]; rfl)
        have lz : (xs ++ [V.str z]).length = i + 1 := by rw [List.length_append, lx]; rfl
        have setz : ∀ v : V, (xs ++ [V.str z]).set i v = xs ++ [v] := fun v => by
          rw [List.set_append_right _ _ (by rw [lx]; exact Nat.le_refl _), lx, Nat.sub_self]
          rfl
        have fin : ∀ (v : V) (G5 : Hp), Keep p G3 G5 → Src G5 p (30 + 30 * i) → (Nm p G5 v ∧ v ≠ .ref c0 ∧ v ≠ .ref w0) → (b = true → ∀ z, v = .str z → ¬ IsWord z ∨ z = "key") → (b = false → (∃ z, v = .str z ∧ IsWord z ∧ z ≠ "key") ∨ ∃ j, j < xs.length ∧ ws[j]? = some true) →
            ∃ (xs' : List V) (ws' : List Bool), (upd G5 c0 (.lst (xs ++ [v]))) c0 = some (.lst xs') ∧ (upd G5 c0 (.lst (xs ++ [v]))) w0 = some (.lst (ws'.map V.bl)) ∧ CW xs' ws' ∧ xs'.length = i + 1 ∧ (∀ u ∈ xs', Nm p (upd G5 c0 (.lst (xs ++ [v]))) u ∧ u ≠ .ref c0 ∧ u ≠ .ref w0) ∧ Bas H p (upd G5 c0 (.lst (xs ++ [v]))) ∧ Src (upd G5 c0 (.lst (xs ++ [v]))) p (11 + 30 * (i + 1)) := by
          intro v G5 k5 s5 hv f1 f2
          refine ⟨xs ++ [v], ws ++ [b], upd_same, by rw [upd_ne cw.symm]; exact k5 _ _ wp gw4, cw0.snoc f1 f2, by rw [List.length_append, lx]; rfl, fun u hu => ?_, (B4.keep k5).set Hc, ?_⟩
          · have hu2 : Nm p G5 u ∧ u ≠ .ref c0 ∧ u ≠ .ref w0 := by
              rcases List.mem_append.mp hu with h | h
              · exact ⟨(hxs4 u h).1.keep k5, (hxs4 u h).2⟩
              · rw [List.mem_singleton.mp h]
                exact hv
            exact ⟨hu2.1.frame fun q e o h => by rw [upd_ne (fun z => hu2.2.1 (by rw [e, z]))]; exact h, hu2.2⟩
          · obtain ⟨x1, x2, x3, y1, y2⟩ := s5.mono (show 30 + 30 * i ≤ 11 + 30 * (i + 1) by omega)
            exact ⟨x1, x2, x3, by rw [upd_ne cp.symm]; exact y1, y2⟩
        dsimp only [tNext]
        refine ⟨_, rfl, _, rfl, w0, _, ((i : Nat) : Int), .bl b, rfl, rfl, SqL.of gw4, aw, b, rfl, ?_⟩
        cases hbb : b with
        | true =>
          subst hbb
          refine itTb rfl ?_
          refine ⟨_, rfl, _, rfl, p, _, rfl, S4, by omega, fun G5 v k5 s5 ov fv => ⟨(by show 2 ≤ sizeLine; decide), fun l nl => ⟨p, l, _, [v, .str "key"], rfl, s5.new nl, by omega, s5.ne nl, SqL.of upd_same, (fun e => by cases e), (by show 2 ≤ 100000; decide), fun G6 x k6 s6 hx => ?_⟩⟩⟩
          have kA : Keep p G3 G6 := (k5.trans ((Keep.refl _).new nl)).trans k6
          have k56 : Keep p G5 G6 := ((Keep.refl _).new nl).trans k6
          have hv : (Nm p G6 x ∧ x ≠ .ref c0 ∧ x ≠ .ref w0) ∧ ∀ z, x = .str z → ¬ IsWord z ∨ z = "key" := by
            simp only [List.mem_cons, List.not_mem_nil, or_false] at hx
            rcases hx with rfl | rfl
            · refine ⟨⟨(odd_nm ov).keep k56, fun e => ?_, fun e => ?_⟩, fun z e => .inl (odd_bad ov z e)⟩
              · rw [fv _ e] at gc4
                cases gc4
              · rw [fv _ e] at gw4
                cases gw4
            · exact ⟨⟨word_nm ⟨by decide, by decide, by decide⟩, (fun e => by cases e), fun e => by cases e⟩, fun z e => by cases e; exact .inr rfl⟩
          refine ⟨_, rfl, _, rfl, c0, _, _, i, rfl, rfl, kA _ _ cp gc4, ixN_n (by rw [lz]; omega), ?_⟩
          rw [setz]
          obtain ⟨xs', ws', r1, r2, r3, r4, r5, r6, r7⟩ := fin x G6 kA (s6.mono (by omega)) hv.1 (fun _ => hv.2) (fun e => by cases e)
          exact ⟨_, _, _, _, _, _, _, _, _, _, _, xs', ws', rfl, r1, r2, r3, r4, r5, r6, r7⟩
        | false =>
          subst hbb
          refine itFb rfl ?_
          have stay : ∀ G5, Keep p G3 G5 → Src G5 p (30 + 30 * i) → ∃ (xs' : List V) (ws' : List Bool), G5 c0 = some (.lst xs') ∧ G5 w0 = some (.lst (ws'.map V.bl)) ∧ CW xs' ws' ∧ xs'.length = i + 1 ∧ (∀ u ∈ xs', Nm p G5 u ∧ u ≠ .ref c0 ∧ u ≠ .ref w0) ∧ Bas H p G5 ∧ Src G5 p (11 + 30 * (i + 1)) := fun G5 k5 s5 => by
            refine ⟨xs ++ [.str z], ws ++ [false], k5 _ _ cp gc4, k5 _ _ wp gw4, cw0.snoc (fun e => by cases e) (fun _ => .inl ⟨z, rfl, hz3, nk3⟩), lz, fun u hu => ?_, B4.keep k5, s5.mono (by omega)⟩
            rcases List.mem_append.mp hu with h | h
            · exact ⟨(hxs4 u h).1.keep k5, (hxs4 u h).2⟩
            · rw [List.mem_singleton.mp h]
              exact ⟨word_nm hz3, (fun e => by cases e), fun e => by cases e⟩
          refine s1_if (fun b' G5 => Keep p G3 G5 ∧ Src G5 p (23 + 30 * i) ∧ (b' = true → 0 < i)) (fun Q q => ?_) ?_ ?_
          · refine ⟨_, rfl, _, _, rfl, rfl, _, rfl, ?_⟩
            by_cases hp : 0 < i
            · exact itTb (decide_eq_true (by omega)) ⟨_, rfl, p, _, _, rfl, S4, by omega, by decide, by decide, fun G5 kk k5 s5 k0 k1 => ⟨rfl, _, rfl, q _ _ ⟨k5, s5.mono (by omega), fun _ => hp⟩⟩⟩
            · exact itFb (decide_eq_false (by omega)) (q _ _ ⟨Keep.refl _, S4.mono (by omega), fun e => by cases e⟩)
          · rintro G5 ⟨k5, s5, hp⟩
            have hp := hp rfl
            refine ⟨_, rfl, _, rfl, _, rfl, p, _, _, rfl, s5, by omega, by omega, by omega, fun G6 jj k6 s6 j0 j1 => ?_⟩
            obtain ⟨jn, rfl⟩ := Int.eq_ofNat_of_zero_le j0
            have jl : jn < xs.length := by omega
            have ex : xs[jn]? = some xs[jn] := List.getElem?_eq_getElem jl
            have ex2 : (xs ++ [V.str z])[jn]? = some xs[jn] := by rw [List.getElem?_append_left jl]; exact ex
            have kA := k5.trans k6
            have hm := hxs4 _ (List.mem_of_getElem? ex)
            refine ⟨c0, _, _, _, rfl, rfl, SqL.of (kA _ _ cp gc4), atI_nat ex2, _, rfl, _, rfl, c0, _, _, i, rfl, rfl, kA _ _ cp gc4, ixN_n (by rw [lz]; omega), ?_⟩
            rw [setz]
            obtain ⟨xs', ws', r1, r2, r3, r4, r5, r6, r7⟩ := fin _ G6 kA (s6.mono (by omega)) ⟨hm.1.keep kA, hm.2⟩ (fun e => by cases e) (fun _ => cw0.copy ex)
            exact ⟨_, _, _, _, _, _, _, _, _, _, _, xs', ws', rfl, r1, r2, r3, r4, r5, r6, r7⟩
          · rintro G5 ⟨k5, s5, _⟩
            obtain ⟨xs', ws', r1, r2, r3, r4, r5, r6, r7⟩ := stay G5 k5 (s5.mono (by omega))
            exact ⟨_, _, _, _, _, _, _, _, _, _, _, xs', ws', rfl, r1, r2, r3, r4, r5, r6, r7⟩
      rintro σ G3 ⟨v1, v6, v7, v8, v9, v10, v11, v12, v13, v14, v15, xs, ws, rfl, gc3, gw3, cw3, lx, hxs3, B3, S3⟩
      have lx3 : xs.length ≤ 3 := by omega
      have S3 : Src G3 p 101 := S3.mono (by omega)
      dsimp only [tNext]
      have strL : ∀ {G G' : Hp} {l : Addr} {x : V} {zs : List Str}, x ∈ zs.map V.str → ∃ z, x = .str z ∧ z ∈ zs := fun h => by
        obtain ⟨z, hz, rfl⟩ := List.mem_map.mp h
        exact ⟨z, rfl, hz⟩
      refine sq_set (fun x G => ∃ (h : Addr) (z1 z2 z3 z4 : Str), x = .ref h ∧ Good4 z1 z2 z3 z4 ∧ h ≠ p ∧ G3 h = none ∧ Keep p G3 G ∧ Src G p 120 ∧ G h = some (.lst [.str z1, .str z2, .str z3, .str z4])) (fun Q q => ?_) ?_
      · refine ⟨_, rfl, (by show 5 ≤ sizeLine; decide), fun l1 n1 => ⟨p, l1, _, (["stop", "stop", "keep", "replace", "merge"] : List Str).map V.str, rfl, S3.new n1, by decide, S3.ne n1, SqL.of upd_same, (fun e => by cases e), (by show 5 ≤ 100000; decide), fun A1 x1 k1 s1 hx1 => ?_⟩⟩
        obtain ⟨z1, rfl, m1⟩ := strL (G := A1) (G' := A1) (l := l1) hx1
        have kA1 : Keep p G3 A1 := ((Keep.refl _).new n1).trans k1
        refine ⟨_, rfl, (by show 3 ≤ sizeLine; decide), fun l2 n2 => ⟨p, l2, _, (["stop", "skip", "make"] : List Str).map V.str, rfl, s1.new n2, by decide, s1.ne n2, SqL.of upd_same, (fun e => by cases e), (by show 3 ≤ 100000; decide), fun A2 x2 k2 s2 hx2 => ?_⟩⟩
        obtain ⟨z2, rfl, m2⟩ := strL (G := A1) (G' := A1) (l := l1) hx2
        have kA2 : Keep p G3 A2 := kA1.trans (((Keep.refl _).new n2).trans k2)
        refine ⟨_, rfl, (by show 2 ≤ sizeLine; decide), fun l3 n3 => ⟨p, l3, _, (["stop", "skip"] : List Str).map V.str, rfl, s2.new n3, by decide, s2.ne n3, SqL.of upd_same, (fun e => by cases e), (by show 2 ≤ 100000; decide), fun A3 x3 k3 s3 hx3 => ?_⟩⟩
        obtain ⟨z3, rfl, m3⟩ := strL (G := A1) (G' := A1) (l := l1) hx3
        have kA3 : Keep p G3 A3 := kA2.trans (((Keep.refl _).new n3).trans k3)
        refine ⟨_, rfl, (by show 2 ≤ sizeLine; decide), fun l4 n4 => ⟨p, l4, _, (["one", "all"] : List Str).map V.str, rfl, s3.new n4, by decide, s3.ne n4, SqL.of upd_same, (fun e => by cases e), (by show 2 ≤ 100000; decide), fun A4 x4 k4 s4 hx4 => ?_⟩⟩
        obtain ⟨z4, rfl, m4⟩ := strL (G := A1) (G' := A1) (l := l1) hx4
        have kA4 : Keep p G3 A4 := kA3.trans (((Keep.refl _).new n4).trans k4)
        refine ⟨(by show 4 ≤ sizeLine; decide), fun h nh => q _ _ ⟨h, z1, z2, z3, z4, rfl, ⟨?_, m2, m3, m4⟩, s4.ne nh, ?_, kA4.new nh, (s4.new nh).mono (by decide), upd_same⟩⟩
        · simp only [List.mem_cons, List.not_mem_nil, or_false] at m1 ⊢
          rcases m1 with rfl | rfl | rfl | rfl | rfl <;> simp
        · cases e : G3 h with
          | none => rfl
          | some o => rw [kA4 _ _ (s4.ne nh) e] at nh; cases nh
      rintro _ G4 ⟨h, z1, z2, z3, z4, rfl, good, hp, nh3, k4, S4, gh4⟩
      refine sq_set (fun x G => ∃ r, x = .ref r ∧ r ≠ p ∧ r ≠ h ∧ G r = some (.lst [.str z1, .str z2, .str z3, .str z4]) ∧ Keep p G4 G ∧ Src G p 120) (fun Q q => ?_) ?_
      · exact ⟨_, rfl, h, _, rfl, .inl (SqL.of gh4), fun r nr => q _ _ ⟨r, rfl, S4.ne nr, (ne_of_none gh4 nr).symm, upd_same, (Keep.refl _).new nr, S4.new nr⟩⟩
      rintro _ G5 ⟨r, rfl, rp, rh, gr5, k5, S5⟩
      have k35 : Keep p G3 G5 := k4.trans k5
      have hc0 : c0 ≠ h := ne_of_none gc3 nh3
      have hw0 : w0 ≠ h := ne_of_none gw3 nh3
      have B5 : Bas H p G5 := B3.keep k35
      have Hh : H h = none := by
        cases e : H h with
        | none => rfl
        | some o => rw [(B3 _ _ e).2] at nh3; cases nh3
      have hxs5 : ∀ v ∈ xs, Nm p G5 v ∧ v ≠ .ref h := fun v hv => by
        refine ⟨(hxs3 v hv).1.keep k35, fun e => ?_⟩
        have := (hxs3 v hv).1.pl
        rw [e] at this
        cases this with
        | box n b =>
          cases b with
          | lst h => rw [nh3] at h; cases h
          | tup h => rw [nh3] at h; cases h
          | dic h => rw [nh3] at h; cases h
      refine ⟨_, rfl, p, _, _, rfl, S5, by omega, by decide, by decide, fun G6 mk k6 s6 i0 i1 => ⟨_, rfl, by omega, by omega, ?_⟩⟩
      have mk2 : mk.toNat ≤ 2 := by omega
      refine for_range (lo := 0) (fun i σ G => ∃ (v1 v6 v9 v10 v11 v12 v13 v14 v15 : Option V) (y : Hv), σ = [some (.ref a), v1, some (.ref p), some (.str nz), some (.ref c0), some (.ref w0), v6, some (.ref h), some (.ref r), v9, v10, v11, v12, v13, v14, v15] ∧ G h = some (.lst [y.pr, y.la, y.go, y.sh]) ∧ PlH p G y ∧ (∀ n, y.of n ≠ .ref h) ∧ (∀ b o, b ≠ p → b ≠ h → G5 b = some o → G b = some o) ∧ Src G p (121 + 2 * i))
        ⟨_, _, _, _, _, _, _, _, _, hv4 z1 z2 z3 z4, rfl, k6 _ _ hp (k5 _ _ hp gh4), hv4_pl, fun n => ?_, fun b o n _ e => k6 _ _ n e, s6⟩ ?_ ?_
      · unfold Hv.of
        split
        · exact fun e => by cases e
        split
        · exact fun e => by cases e
        split
        · exact fun e => by cases e
        · exact fun e => by cases e
      · rintro i σ G hi ⟨v1, v6, v9, v10, v11, v12, v13, v14, v15, y, rfl, gh, py, yh, kG, SG⟩
        have i2 : i < 2 := by omega
        refine g_name ?_
        refine sq_set (fun x G2 => PlV p G2 x ∧ x ≠ .ref h ∧ Keep p G G2 ∧ Src G2 p (122 + 2 * i)) (fun Q q => ?_) ?_
        · refine ⟨_, rfl, (by show 1 ≤ sizeLine; decide), fun t nt => ⟨(by show 0 ≤ sizeLine; decide), fun m nm => ⟨(by show 13 ≤ sizeLine; decide), fun L nL => ?_⟩⟩⟩
          have sT := Lw.Same.new (o := .tup [.str "stop"]) (Same.refl G) nt
          have sM := Lw.Same.new (o := .lst []) (Same.refl _) nm
          have ST := SG.new (o := .tup [.str "stop"]) nt
          have SM := ST.new (o := .lst []) nm
          have tm : t ≠ m := fun e => by rw [← e, upd_same] at nm; cases nm
          have nmG : G m = none := by rw [upd_ne tm.symm] at nm; exact nm
          have sL := Lw.Same.new (o := .lst [.str "", .str "stop ", .str "make", .str "skip", .str "all", .str "one", .str "merge", .str "keep", .non, .int 0, .bl true, .ref t, .ref m]) (Same.refl _) nL
          refine ⟨p, L, _, _, rfl, SM.new nL, by omega, SM.ne nL, SqL.of upd_same, (fun e => by cases e), (by show 13 ≤ 100000; decide), fun G2 x k2 s2 hx => ?_⟩
          have sA := sT.trans (sM.trans sL)
          have kA : Keep p G G2 := (Keep.of_same sA).trans k2
          have tp : t ≠ p := SG.ne nt
          have mp : m ≠ p := ST.ne nm
          refine q _ _ ⟨?_, ?_, kA, s2.mono (by omega)⟩
          · simp only [List.mem_cons, List.not_mem_nil, or_false] at hx
            rcases hx with rfl | rfl | rfl | rfl | rfl | rfl | rfl | rfl | rfl | rfl | rfl | rfl | rfl
            · exact .str _
            · exact .str _
            · exact .str _
            · exact .str _
            · exact .str _
            · exact .str _
            · exact .str _
            · exact .str _
            · exact .non
            · exact .int _
            · exact .bl _
            · exact .box tp (.tup (k2 _ _ tp (sL _ _ (sM _ _ upd_same))))
            · exact .box mp (.lst (k2 _ _ mp (sL _ _ upd_same)))
          · intro e
            subst e
            simp only [List.mem_cons, List.not_mem_nil, or_false, V.ref.injEq, reduceCtorEq, false_or] at hx
            rcases hx with e | e
            · rw [e, nt] at gh
              cases gh
            · rw [e, nmG] at gh
              cases gh
        rintro x G2 ⟨px, xh, k2, s2⟩
        refine ⟨_, rfl, _, rfl, _, rfl, p, _, _, rfl, s2, by omega, by decide, by decide, fun G7 jj k7 s7 j0 j1 => ?_⟩
        obtain ⟨jn, rfl⟩ := Int.eq_ofNat_of_zero_le j0
        have jl : jn < 4 := by omega
        obtain ⟨y', ey, hy⟩ := hv_set (y := y) (x := x) jl
        have kA := k2.trans k7
        refine ⟨h, _, _, jn, rfl, rfl, kA _ _ hp gh, ixN_n jl, ?_⟩
        rw [ey]
        have yp : ∀ v : V, v ≠ .ref h → PlV p G7 v → PlV p (upd G7 h (.lst [y'.pr, y'.la, y'.go, y'.sh])) v := fun v n pl => pl.frame fun q e o hq => by
          rw [upd_ne (fun z => n (by rw [e, z]))]
          exact hq
        have b1 : ∀ n, y'.of n ≠ .ref h := of_all (P := fun v => v ≠ .ref h) (hy (fun v => v ≠ .ref h) (yh "present") (yh "lacking") (yh "gone") (yh "shared") xh)
        obtain ⟨q1, q2, q3, q4⟩ := hy (fun v => PlV p G7 v) (py.pr.keep kA) (py.la.keep kA) (py.go.keep kA) (py.sh.keep kA) (px.keep k7)
        refine ⟨_, _, _, _, _, _, _, _, _, y', rfl, upd_same, ⟨yp _ (b1 "present") q1, yp _ (b1 "lacking") q2, yp _ (b1 "gone") q3, yp _ (b1 "shared") q4⟩, b1, fun b o n1 n2 e => ?_, ?_⟩
        · rw [upd_ne n2]
          exact kA _ _ n1 (kG _ _ n1 n2 e)
        · obtain ⟨x1, x2, x3, y1, y2⟩ := s7.mono (show 122 + 2 * i + 1 ≤ 121 + 2 * (i + 1) by omega)
          exact ⟨x1, x2, x3, by rw [upd_ne hp.symm]; exact y1, y2⟩
      rintro σ G7 ⟨v1, v6, v9, v10, v11, v12, v13, v14, v15, y, rfl, gh7, py7, yh7, k57, S7⟩
      dsimp only [tNext]
      have S7 : Src G7 p 125 := S7.mono (by omega)
      have gc7 : G7 c0 = some (.lst xs) := k57 _ _ cp hc0 (k35 _ _ cp gc3)
      have gw7 : G7 w0 = some (.lst (ws.map V.bl)) := k57 _ _ wp hw0 (k35 _ _ wp gw3)
      have gr7 : G7 r = some (.lst [.str z1, .str z2, .str z3, .str z4]) := k57 _ _ rp rh gr5
      have B7 : Bas H p G7 := fun b o e => ⟨(B5 b o e).1, k57 _ _ (B5 b o e).1 (ne_of_none e Hh) (B5 b o e).2⟩
      have hxs7 : ∀ v ∈ xs, Nm p G7 v := fun v hv => (hxs5 v hv).1.frame fun q e o hq => k57 _ _ (fun z => by
        have := (hxs5 v hv).1.pl
        rw [e] at this
        exact this.off z) (fun z => (hxs5 v hv).2 (by rw [e, z])) hq
      refine sq_set (fun x G => ∃ ps b, x = .ref ps ∧ ps ≠ p ∧ PlB b G ps xs ∧ Keep p G7 G ∧ Src G p 126) (fun Q q => ?_) ?_
      · refine ⟨_, rfl, p, _, _, rfl, S7, by omega, by decide, by decide, fun G8 dd k8 s8 d0 d1 => ⟨rfl, _, rfl, ?_⟩⟩
        have gc8 := k8 _ _ cp gc7
        by_cases hd : dd = 0
        · refine itTb (decide_eq_true (by rw [hd])) ⟨_, rfl, c0, xs, rfl, .inl (SqL.of gc8), fun l nl => q _ _ ⟨l, true, rfl, s8.ne nl, upd_same, k8.new nl, (s8.new nl).mono (by decide)⟩⟩
        · refine itFb (decide_eq_false fun e => hd (V.int.inj e)) ⟨_, rfl, c0, xs, rfl, .inl ⟨SqL.of gc8, fun l nl => q _ _ ⟨l, false, rfl, s8.ne nl, upd_same, k8.new nl, (s8.new nl).mono (by decide)⟩⟩⟩
      rintro _ G8 ⟨ps, bb, rfl, psp, hps8, k8, S8⟩
      have py8 : PlH p G8 y := py7.keep k8
      have gh8 := k8 _ _ hp gh7
      have lx1 : xs.length ≤ 1000 := by omega
      have hxs8 : ∀ v ∈ xs, Nm p G8 v := fun v hv => (hxs7 v hv).keep k8
      refine sq_if1 (fun b' G => Same G8 G ∧ b' = false) (fun Q q => ?_) ?_ ?_
      · refine ⟨_, rfl, _, rfl, _, rfl, p, ps, h, .str nz, xs, bb, y, rfl, hps8, lx1, gh8, word_nm hz, hxs8, py8, fun t G9 s9 nt9 gt9 => ?_⟩
        refine ⟨_, rfl, _, rfl, _, rfl, _, rfl, p, c0, w0, h, .str nz, xs, ws, y, rfl, s9 _ _ (k8 _ _ cp gc7), s9 _ _ (k8 _ _ wp gw7), cw3, lx1, s9 _ _ gh8, hname, py8.same s9, fun u G10 s10 nu10 gu10 => ?_⟩
        obtain ⟨ds1, dd1⟩ := told_data (K := K) (nm := .str nz) (xs := xs) (y := y)
        exact ne_told dd1 (s10 _ _ gt9) gu10 ⟨_, rfl, q _ _ ⟨s9.trans s10, rfl⟩⟩
      · rintro _ ⟨_, e⟩
        cases e
      rintro G9 ⟨s89, _⟩
      have S9 := S8.same s89
      refine sq_set (fun x G => Nm p G x ∧ badName x = true ∧ Keep p G9 G ∧ Src G p 130) (fun Q q => ?_) ?_
      · refine ⟨_, rfl, _, rfl, p, _, rfl, S9, by omega, fun A1 v k1 s1 ov fv => ⟨(by show 3 ≤ sizeLine; decide), fun l nl => ⟨p, l, _, [v, .str "table", .str "key"], rfl, s1.new nl, by decide, s1.ne nl, SqL.of upd_same, (fun e => by cases e), (by show 3 ≤ 100000; decide), fun A2 x k2 s2 hx => ?_⟩⟩⟩
        have kA : Keep p A1 A2 := ((Keep.refl _).new nl).trans k2
        have hv : Nm p A2 x ∧ badName x = true := by
          simp only [List.mem_cons, List.not_mem_nil, or_false] at hx
          rcases hx with rfl | rfl | rfl
          · exact ⟨(odd_nm ov).keep kA, odd_name ov⟩
          · exact ⟨word_nm ⟨by decide, by decide, by decide⟩, by decide⟩
          · exact ⟨word_nm ⟨by decide, by decide, by decide⟩, by decide⟩
        exact q _ _ ⟨hv.1, hv.2, k1.trans kA, s2.mono (by decide)⟩
      rintro ov G10 ⟨nv10, bv, k910, S10⟩
      have kA10 : Keep p G8 G10 := (Keep.of_same s89).trans k910
      refine sq_if1 (fun b' G => Same G10 G ∧ b' = false) (fun Q q => ?_) ?_ ?_
      · refine ⟨_, rfl, _, rfl, _, rfl, p, ps, h, ov, xs, bb, y, rfl, hps8.keep kA10 psp, lx1, kA10 _ _ hp gh8, nv10, fun v hv => (hxs8 v hv).keep kA10, py8.keep kA10, fun t G11 s11 nt gt => ?_⟩
        refine ⟨_, rfl, (by show 2 ≤ sizeLine; decide), fun u nu => ?_⟩
        have sU := Lw.Same.new (o := .tup [.str "target", .int (-1)]) (Same.refl G11) nu
        rw [told_name bv] at gt
        refine ne_told (isd_tgt _) (sU _ _ gt) upd_same ⟨_, rfl, itFb rfl ?_⟩
        generalize upd G11 u (.tup [.str "target", .int (-1)]) = G12 at sU ⊢
        have sH := s11.trans sU
        refine ⟨_, rfl, (by show 0 ≤ sizeLine; decide), fun e1 ne1 => ⟨_, rfl, ?_⟩⟩
        have sE := Lw.Same.new (o := .lst []) (Same.refl G12) ne1
        have kE : Keep p G8 (upd G12 e1 (.lst [])) := kA10.trans (Keep.of_same (sH.trans sE))
        have gE : (upd G12 e1 (.lst [])) e1 = some (.lst []) := upd_same
        generalize upd G12 e1 (.lst []) = G13 at sE kE gE ⊢
        refine ⟨p, e1, h, .str nz, [], true, y, rfl, gE, by decide, kE _ _ hp gh8, word_nm hz, fun _ h => (List.not_mem_nil h).elim, py8.keep kE, fun t2 G14 s14 nt2 gt2 => ?_⟩
        refine ⟨_, rfl, (by show 0 ≤ sizeLine; decide), fun e2 ne2 => ⟨(by show 0 ≤ sizeLine; decide), fun e3 ne3 => ⟨_, rfl, ?_⟩⟩⟩
        have sE2 := Lw.Same.new (o := .lst []) (Same.refl G14) ne2
        have sE3 := Lw.Same.new (o := .lst []) (Same.refl _) ne3
        have gE2 := sE3 _ _ (show (upd G14 e2 (.lst [])) e2 = some (.lst []) from upd_same)
        have gE3 : (upd (upd G14 e2 (.lst [])) e3 (.lst [])) e3 = some (.lst (([] : List Bool).map V.bl)) := upd_same
        have sF := sE2.trans sE3
        generalize upd (upd G14 e2 (.lst [])) e3 (.lst []) = G15 at sF gE2 gE3 ⊢
        have kF : Keep p G8 G15 := kE.trans (Keep.of_same (s14.trans sF))
        refine ⟨p, e2, e3, h, .str nz, [], [], y, rfl, gE2, gE3, CW.nil, by decide, kF _ _ hp gh8, hname, py8.keep kF, fun t3 G16 s16 nt3 gt3 => ?_⟩
        obtain ⟨ds1, dd1⟩ := told_data (K := K) (nm := .str nz) (xs := []) (y := y)
        exact ne_told dd1 (s16 _ _ (sF _ _ gt2)) gt3 ⟨_, rfl, q _ _ ⟨sH.trans (sE.trans (s14.trans (sF.trans s16))), rfl⟩⟩
      · rintro _ ⟨_, e⟩
        cases e
      rintro G11 ⟨s1011, _⟩
      have S11 := S10.same s1011
      have k811 : Keep p G8 G11 := kA10.trans (Keep.of_same s1011)
      have gr11 := k811 _ _ rp (k8 _ _ rp gr7)
      refine sq_par (fun x y G => ∃ o1 o2, x = .str o1 ∧ y = .str o2 ∧ (IsWord o1 ∧ o1 ≠ "key") ∧ (IsWord o2 ∧ o2 ≠ "key") ∧ Keep p G11 G ∧ Src G p 160) (fun Q q => ?_) ?_
      · refine ⟨_, rfl, (by show 1 ≤ sizeLine; decide), fun l nl => ⟨p, l, _, ["key"], rfl, S11.new nl, by decide, S11.ne nl, SqL.of upd_same, by decide, fun A1 o1 k1 s1 hz1 hn1 => ?_⟩⟩
        refine ⟨_, rfl, (by show 1 ≤ sizeLine; decide), fun l2 nl2 => ⟨p, l2, _, ["key"], rfl, s1.new nl2, by decide, s1.ne nl2, SqL.of upd_same, by decide, fun A2 o2 k2 s2 hz2 hn2 => ?_⟩⟩
        exact q _ _ _ ⟨o1, o2, rfl, rfl, ⟨hz1, fun e => hn1 (by rw [e]; exact List.mem_singleton.mpr rfl)⟩, ⟨hz2, fun e => hn2 (by rw [e]; exact List.mem_singleton.mpr rfl)⟩, (((Keep.refl _).new nl).trans k1).trans (((Keep.refl _).new nl2).trans k2), s2.mono (by decide)⟩
      rintro _ _ G12 ⟨o1, o2, rfl, rfl, ⟨w1, n1⟩, ⟨w2, n2⟩, k12, S12⟩
      refine sq_set (fun x G => ∃ o, x = .str o ∧ IsWord o ∧ o ≠ "key" ∧ Keep p G12 G ∧ Src G p 161) (fun Q q => ?_) ?_
      · refine ⟨_, rfl, p, _, _, rfl, S12, by omega, by decide, by decide, fun A1 dd k1 s1 d0 d1 => ⟨rfl, _, rfl, ?_⟩⟩
        by_cases hd : dd = 0
        · exact itTb (decide_eq_true (by rw [hd])) ⟨_, rfl, q _ _ ⟨o1, rfl, w1, n1, k1, s1⟩⟩
        · exact itFb (decide_eq_false fun e => hd (V.int.inj e)) ⟨_, rfl, q _ _ ⟨o2, rfl, w2, n2, k1, s1⟩⟩
      rintro _ G13 ⟨o, rfl, w3, n3, k13, S13⟩
      clear w2 n2
      have k1113 : Keep p G11 G13 := k12.trans k13
      have gr13 := k1113 _ _ rp gr11
      have B13 : Bas H p G13 := (((B7.keep k8).keep k811).keep k1113)
      refine sq_if1 (fun b' G => Same G13 G ∧ b' = false) (fun Q q => ?_) ?_ ?_
      · refine ⟨_, rfl, _, rfl, _, rfl, (by show 2 ≤ sizeLine; decide), fun e1 ne1 => ⟨_, rfl, ?_⟩⟩
        have sE := Lw.Same.new (o := .lst [.str o1, .str o]) (Same.refl G13) ne1
        refine ⟨p, e1, r, .str nz, [.str o1, .str o], true, hv4 z1 z2 z3 z4, rfl, upd_same, by show 2 ≤ 1000; decide, sE _ _ gr13, word_nm hz, fun v hv => ?_, hv4_pl, fun t Ga sa nt gt => ?_⟩
        · simp only [List.mem_cons, List.not_mem_nil, or_false] at hv
          rcases hv with rfl | rfl
          · exact word_nm w1
          · exact word_nm w3
        have bt := bad_two w1 w3 n1 n3
        obtain ⟨ds1, dd1⟩ := told_data (K := K) (nm := .str nz) (xs := [.str o1, .str o]) (y := hv4 z1 z2 z3 z4)
        have sA := sE.trans sa
        refine ⟨_, rfl, _, rfl, rfl, _, rfl, ?_⟩
        by_cases eo : o1 = o
        · rw [if_pos eo] at bt
          rw [told_col hname bt] at gt dd1
          refine itTb (decide_eq_true (by rw [eo])) ⟨(by show 2 ≤ sizeLine; decide), fun u nu => ?_⟩
          have sU := Lw.Same.new (o := .tup [.str "target", .int 1]) (Same.refl Ga) nu
          exact ne_told dd1 (sU _ _ gt) upd_same ⟨_, rfl, q _ _ ⟨sA.trans sU, rfl⟩⟩
        · rw [if_neg eo] at bt
          rw [told_fine hname bt (good4_w good)] at gt dd1
          refine itFb (decide_eq_false fun e => eo (V.str.inj e)) ⟨_, rfl, r, _, rfl, .inl ⟨SqL.of (sA _ _ gr13), fun u nu => ?_⟩⟩
          have sU := Lw.Same.new (o := .tup [.str z1, .str z2, .str z3, .str z4]) (Same.refl Ga) nu
          exact ne_told dd1 (sU _ _ gt) upd_same ⟨_, rfl, q _ _ ⟨sA.trans sU, rfl⟩⟩
      · rintro _ ⟨_, e⟩
        cases e
      rintro G14 ⟨s1314, _⟩
      have B14 : Bas H p G14 := B13.keep (Keep.of_same s1314)
      have gr14 := s1314 _ _ gr13
      refine sq_set (fun x G => ∃ m, x = .ref m ∧ G14 m = none ∧ G m = some (.lst [.str o1]) ∧ Same G14 G) (fun Q q => ⟨_, rfl, (by show 1 ≤ sizeLine; decide), fun m nm => q _ _ ⟨m, rfl, nm, upd_same, Lw.Same.new (Same.refl _) nm⟩⟩) ?_
      rintro _ G15 ⟨m, rfl, nm, gm, s15⟩
      have gr15 := s15 _ _ gr14
      have Hm : H m = none := B14.new nm
      have b1 := bad_one w1 n1
      have gd0 : Good4 "stop" "stop" "stop" "one" := ⟨by decide, by decide, by decide, by decide⟩
      have gd2 : Good4 z1 "stop" z3 "one" := ⟨good.p, by decide, good.g, by decide⟩
      refine sq_par (fun x y G => ∃ q1 q2, x = .ref q1 ∧ y = .ref q2 ∧ TgtAt CG CH G q1 (.str nz) [.str o1] (hv4 "stop" "stop" "stop" "one") ∧ TgtAt CG CH G q2 (.str nz) [.str o1] (hv4 z1 "stop" z3 "one") ∧ Same G15 G) (fun Q q => ?_) ?_
      · refine ⟨_, rfl, _, rfl, rfl, rfl, ?_⟩
        refine tgt_new (a := p) (zs := []) (b := true) (y := hv4 "stop" "stop" "stop" "one") rfl gm (by show 1 ≤ 1000; decide) (word_nm hz) (fun v hv => by rw [List.mem_singleton.mp hv]; exact word_nm w1) (fun q => rfl) hv4_pl (fun e => by rw [hname] at e; cases e) (fun _ i e => by rw [b1] at e; cases e) (fun _ _ z r e => by rw [good4_w gd0] at e; cases e) (fun _ _ _ q1 Ga sa nq1 tg1 => ?_)
        refine ⟨_, rfl, _, rfl, (by show 1 ≤ sizeLine; decide), fun e1 ne1 => ?_⟩
        have sE := Lw.Same.new (o := .lst [.str o1]) (Same.refl Ga) ne1
        have sA := sa.trans sE
        refine ⟨_, rfl, r, _, 2, .str z3, rfl, rfl, SqL.of (sA _ _ gr15), rfl, _, rfl, r, _, 0, .str z1, rfl, rfl, SqL.of (sA _ _ gr15), rfl, rfl, rfl, ?_⟩
        refine tgt_new (a := p) (zs := [.str z3, .str z1]) (b := true) (y := hv4 z1 "stop" z3 "one") rfl upd_same (by show 1 ≤ 1000; decide) (word_nm hz) (fun v hv => by rw [List.mem_singleton.mp hv]; exact word_nm w1) (fun q => rfl) hv4_pl (fun e => by rw [hname] at e; cases e) (fun _ i e => by rw [b1] at e; cases e) (fun _ _ z r e => by rw [good4_w gd2] at e; cases e) (fun _ _ _ q2 Gb sb nq2 tg2 => ?_)
        exact q _ _ _ ⟨q1, q2, rfl, rfl, tg1.same (sE.trans sb), tg2, sA.trans sb⟩
      rintro _ _ G16 ⟨q1, q2, rfl, rfl, tg1, tg2, s16⟩
      have gm16 := s16 _ _ gm
      refine sq_do (fun x G => TgtAt CG CH G q1 (.str nz) [.str o1] (hv4 "stop" "stop" "stop" "one") ∧ TgtAt CG CH G q2 (.str nz) [.str o1] (hv4 z1 "stop" z3 "one") ∧ G r = some (.lst [.str z1, .str z2, .str z3, .str z4]) ∧ Bas H p G) (fun Q q => ?_) ?_
      · have rm : r ≠ m := ne_of_none gr14 nm
        refine ⟨_, rfl, .inl ⟨rfl, _, SqL.of gm16⟩, _, rfl, ⟨m, [.str o1], .str o, rfl, rfl, gm16, (by show 1 < sizeLine; decide), ?_⟩⟩
        exact q _ _ ⟨tg1.set gm16, tg2.set gm16, by rw [upd_ne rm]; exact s16 _ _ gr15, ((B14.keep (Keep.of_same (s15.trans s16))).set Hm)⟩
      rintro _ G17 ⟨t1, t2, gr17, B17⟩
      obtain ⟨d1, c1, hb1, a1, a2, e1, a3⟩ := t1
      obtain ⟨d2, c2, hb2, b2, b3, e2, b4⟩ := t2
      refine sq_if1 (fun b' G => Same G17 G ∧ b' = false) (fun Q q => ?_) ?_ ?_
      · refine ⟨_, rfl, q1, CG, d1, _, _, rfl, a1, clG, g2, rfl, _, rfl, (by show 1 ≤ sizeLine; decide), fun u nu => ?_⟩
        have sU := Lw.Same.new (o := .tup [.str o1]) (Same.refl G17) nu
        refine ne_told (isd_strs (zs := [o1]) fun x hx => by rw [List.mem_singleton.mp hx]; exact w1) (sU _ _ a2) upd_same ⟨_, rfl, itFb rfl ?_⟩
        generalize upd G17 u (.tup [.str o1]) = Gc at sU ⊢
        refine ⟨_, rfl, q1, CG, d1, _, _, rfl, sU _ _ a1, clG, g3, rfl, hab_new (a := p) (good4_w gd0) hv4_pl fun hn Gd sd nhn hab => ?_⟩
        obtain ⟨dn, en⟩ := id hab
        have sD := sU.trans sd
        refine ⟨hb1, e1, _, .ref CH, rfl, sD _ _ a3, .ins en, c.nfH, hb1, .ref hn, hv4 "stop" "stop" "stop" "one", rfl, ⟨e1, sD _ _ a3⟩, hv4_flat, .inl ⟨hn, hv4 "stop" "stop" "stop" "one", rfl, hab, hv4_flat, fun Ge se => ⟨_, rfl, _, rfl, itFb (by rw [sameH_me]; rfl) ?_⟩⟩⟩
        have sF := sD.trans se
        exact ⟨_, rfl, q1, CG, d1, _, _, rfl, sF _ _ a1, clG, g3, rfl, _, _, _, _, true, rfl, .own CH, .base (.ins (sF _ _ a3) c.hc.cl c.hc.ha c.hc.hn c.hc.ht c.hc.hm), kit_me, true, rfl, q _ _ ⟨sF, rfl⟩⟩
      · rintro _ ⟨_, e⟩
        cases e
      rintro G18 ⟨s18, _⟩
      refine sq_if1 (fun b' G => Same G18 G ∧ b' = false) (fun Q q => ?_) ?_ ?_
      · have b2' := s18 _ _ b2
        refine ⟨_, rfl, q2, CG, d2, _, _, rfl, b2', clG, g3, rfl, _, rfl, r, _, 0, .str z1, rfl, rfl, SqL.of (s18 _ _ gr17), rfl, _, rfl, r, _, 2, .str z3, rfl, rfl, SqL.of (s18 _ _ gr17), rfl, rfl, rfl, hab_new (a := p) (y := hv4 z1 "stop" z3 "one") (good4_w gd2) hv4_pl fun hn Gd sd nhn hab => ?_⟩
        obtain ⟨dn, en⟩ := id hab
        have sD := s18.trans sd
        refine ⟨hb2, e2, _, .ref CH, rfl, sD _ _ b4, .ins en, c.nfH, hb2, .ref hn, hv4 z1 "stop" z3 "one", rfl, ⟨e2, sD _ _ b4⟩, hv4_flat, .inl ⟨hn, hv4 z1 "stop" z3 "one", rfl, hab, hv4_flat, fun Ge se => ⟨_, rfl, _, rfl, itFb (by rw [sameH_me]; rfl) ?_⟩⟩⟩
        have sF := sd.trans se
        exact ⟨_, rfl, q2, CG, d2, _, _, rfl, sF _ _ b2', clG, g3, rfl, hb2, CH, e2, _, .str "one", rfl, sF _ _ (s18 _ _ b4), c.hb.cl, c.hb.n4, rfl, rfl, _, rfl, q _ _ ⟨sF, by rw [decide_eq_true rfl]; rfl⟩⟩
      · rintro _ ⟨_, e⟩
        cases e
      rintro G19 ⟨s19, _⟩
      have sZ := s18.trans s19
      have a1' := sZ _ _ a1
      have a3' := sZ _ _ a3
      refine s1_if (fun b' G => Same G19 G ∧ b' = false) (fun Q q => ?_) ?_ ?_
      · refine ⟨_, rfl, q1, CG, d1, _, _, rfl, a1', clG, g3, rfl, hb1, CH, e1, _, .str "stop", rfl, a3', c.hb.cl, c.hb.n2, rfl, rfl, _, rfl, itFb (by rw [decide_eq_true rfl]; rfl) ?_⟩
        refine ⟨_, rfl, q1, CG, d1, _, _, rfl, a1', clG, g3, rfl, hb1, CH, e1, _, .str "stop", rfl, a3', c.hb.cl, c.hb.n1, rfl, rfl, _, rfl, itFb (by rw [decide_eq_true rfl]; rfl) ?_⟩
        exact ⟨_, rfl, q1, CG, d1, _, _, rfl, a1', clG, g3, rfl, hb1, CH, e1, _, .str "stop", rfl, a3', c.hb.cl, c.hb.n3, rfl, rfl, _, rfl, q _ _ ⟨Same.refl _, by rw [decide_eq_true rfl]; rfl⟩⟩
      · rintro _ ⟨_, e⟩
        cases e
      · rintro G20 ⟨s20, _⟩
        exact ⟨_, _, _, _, _, _, _, _, _, _, _, _, _, _, _, rfl, (B17.keep (Keep.of_same (sZ.trans s20))).out⟩
    · rintro σ H' ⟨v1, v2, v3, v4, v5, v6, v7, v8, v9, v10, v11, v12, v13, v14, v15, rfl, sH⟩
      exact k H'
end
end Lw

set_option Elab.async false
set_option linter.all false
set_option maxRecDepth 100000
set_option maxHeartbeats 1000000
namespace Hd2
open PySem PySem.Spec PyProof.Rows L2
/-! the keys of a written dict, in their order -/
theorem dic_ky {K : PySem.W.Frag} {w : World} {a : Addr} {ks : List PySem.Str} (h : He.dicW K a = some (He.keysIn w.params ks)) : Kd.KyD K w a ks := by
  obtain ⟨es, n, D⟩ := He.dicW_ok h
  refine ⟨es, n, D, ?_⟩
  unfold He.dicW at h
  rw [D.at_] at h
  simp only [D.low] at h
  have e : es.toList.map He.keyOf = He.keysIn w.params ks := Option.some.inj h
  have ln : es.size = ks.length := by
    have z := congrArg List.length e
    unfold He.keysIn at z
    rw [List.length_map, List.length_map, Array.length_toList] at z
    exact z
  refine ⟨ln, fun i d hd => ?_⟩
  have hi : i < ks.length := by
    rw [← ln]
    exact (Array.getElem?_eq_some_iff.mp hd).1
  have z := congrArg (fun l : List (Option (PySem.Str × Int)) => l[i]?) e
  unfold He.keysIn at z
  simp only [List.getElem?_map, Array.getElem?_toList, hd, List.getElem?_eq_getElem hi, Option.map_some] at z
  have z2 := Option.some.inj z
  refine ⟨ks[i], ?_⟩
  unfold He.keyOf at z2
  split at z2
  · rename_i x t hk
    have e4 : x = ks[i] := congrArg Prod.fst (Option.some.inj z2)
    exact ⟨t, List.getElem?_eq_getElem hi, by rw [hk, e4]⟩
  · cases z2
theorem Says.ky {fa : List He.Fa} {fn : List He5.DefA} {ts : List He.Tab} {own : PySem.W.Frag → Bool} {w : World} {K : PySem.W.Frag} (c : Says fa fn ts own w K) (i : Nat) {t : He.Tab} (h : ts[i]? = some t := by rfl) : Kd.KyD K w (t.1 K) t.2 := by
  have e := congrArg (fun l : Tb => l[i]?) c.2.1
  simp only [tbs, tbv, List.getElem?_map, h] at e
  exact dic_ky (Option.some.inj e)
end Hd2

set_option Elab.async false
set_option linter.all false
set_option maxRecDepth 100000
set_option maxHeartbeats 0
namespace Hx
open PySem PySem.Spec PyProof.Rows L2
/-! an own error class with an own __init__, over any base: what the head looks up -/
def oexB (K : PySem.W.Frag) (C : Addr) (tl : List Value) (nw : String) : Bool := match K.lookup C with
  | some ⟨.type t, _, .cls ⟨_, _, .ref c :: bm, _, _, true, _, _, _, _, false⟩, sl⟩ => (decide (t = "type") && (decide (c = C) && PySem.Ge.tailB tl bm)) && (match sl.toList with
    | [_, _, _, _, some (.builtin z), _] => decide (z = nw)
    | _ => false)
  | _ => false
def clsB (K : PySem.W.Frag) (C : Addr) (tl : List Value) (nw : String) : Bool := oexB K C tl nw && (He.eqO (PySem.W.findIn K (.ref C) "__setattr__") (some (some (.builtin "object.__setattr__"))) && (decide (PySem.W.subIn K (.ref C) (.type "BaseException") = some true) &&
  (decide (PySem.W.typeIn K (.ref C) = some (.type "type")) && PySem.W.keepIn K (.ref C))))
theorem oexB_ok {K : PySem.W.Frag} {C : Addr} {tl : List Value} {nw : String} (T : PySem.Ge.Tl tl) (h : clsB K C tl nw = true) : Ge.OexT K C tl nw := by
  obtain ⟨h1, h⟩ := He.ba h
  obtain ⟨h2, h⟩ := He.ba h
  obtain ⟨h3, h⟩ := He.ba h
  obtain ⟨h4, h5⟩ := He.ba h
  refine ⟨T, ?_, He.eqO_ok h2, of_decide_eq_true h3, of_decide_eq_true h4, h5⟩
  unfold oexB at h1
  split at h1
  · rename_i t dd nm bs c bm N qn sn sub ab col sl e
    obtain ⟨q1, q2⟩ := He.ba h1
    obtain ⟨q3, q4⟩ := He.ba q1
    obtain ⟨q5, q6⟩ := He.ba q4
    have e1 := of_decide_eq_true q3
    have e2 := of_decide_eq_true q5
    subst e1 e2
    split at q2
    · rename_i k0 k1 k2 k3 z k5 es
      have e3 := of_decide_eq_true q2
      subst e3
      obtain ⟨sl⟩ := sl
      simp only at es
      subst es
      exact ⟨nm, qn, N, bs, bm, sn, sub, ab, col, dd, k0, k1, k2, k3, k5, e, q6⟩
    · cases q2
  · cases h1
end Hx

set_option Elab.async false
set_option linter.all false
set_option maxRecDepth 100000
set_option maxHeartbeats 0
namespace Lw
open PySem PySem.Spec PyProof.Rows L2
def fn0 : List He5.DefA := [dG "is_word" sIsWord, dG "copied" sCopied, dM "BadHabit" "__init__" "BadHabit.__init__" sBhI, dM "BadTarget" "__init__" "BadTarget.__init__" sBtI, dG "_law_draw" sDraw, dG "_law_source" sSource, dG "_law_of" sOf, dG "_law_word" sWord, dG "_law_odd" sOddL, dM "Habits" "__init__" "Habits.__init__" sHabI [("present", .str "stop"), ("lacking", .str "stop"), ("gone", .str "stop"), ("shared", .str "one")], dM "Habits" "named" "Habits.named" sNamed, dM "Habits" "__eq__" "Habits.__eq__" sHabE]
def fn1 : List He5.DefA := [dM "Target" "__init__" "Target.__init__" sTgtI, dG "_law_integer" sInt, dG "_law_told" sTold, dG "_law_due" sDue, dG "law" sLaw]
def fn : List He5.DefA := fn0 ++ (fn1)
def glos0 : List Str := ["Target", "Habits", "VALUES", "BadHabit", "BadTarget", "BadNetwork", "CopiesError", "Table", "is_word", "copied", "_law_draw", "_law_source"]
def glos1 : List Str := ["_law_of", "_law_word", "_law_odd", "_law_integer", "_law_told", "_law_due", "law"]
def glos : List Str := glos0 ++ (glos1)
def frees0 : List Str := ["len", "abs", "int", "range", "isinstance", "bool", "str", "list", "tuple", "dict", "all", "max"]
def frees1 : List Str := ["min", "enumerate"]
def frees : List Str := frees0 ++ (frees1)
def fas0 : List He.Fa := [.cls "Habits", .mkr "Habits", .cls "Target", .mkr "Target", .int "LONGEST_WORD" 8, .str "TABLE" "table", .noat "Habits" "present", .noat "Habits" "lacking", .noat "Habits" "gone", .noat "Habits" "shared", .noat "Target" "name", .noat "Target" "columns"]
def fas1 : List He.Fa := [.noat "Target" "habits", .meth "Habits" "named", .meth "Habits" "__eq__", .exm "BadHabit" "BadHabit" true, .exm "BadTarget" "BadTarget" true, .exm "BadHabit" "BadTarget" false, .meth "BadHabit" "__init__", .meth "BadTarget" "__init__"]
def fas : List He.Fa := fas0 ++ (fas1)
def fa : List He.Fa := glos.map He.Fa.glo ++ (frees.map He.Fa.free ++ fas)
def tabs : List He.Tab := [(fun K => He.ga K "VALUES", habNames)]
def hvB (K : PySem.W.Frag) (q : Str × List Str) : Bool := match PySem.W.nsIn K (He.ga K "VALUES") q.1 with
  | some (some (.ref t)) => tupB K t (q.2.map V.str)
  | _ => false
def errB (K : PySem.W.Frag) : Bool := He.eqO (PySem.W.findIn K (.ref (He.ga K "BadHabit")) "habit") (some none) && (He.eqO (PySem.W.findIn K (.ref (He.ga K "BadTarget")) "at") (some none) && (decide (PySem.W.kitAny K (.ref (He.ga K "BadTarget")) [.ref (He.ga K "BadHabit"), .ref (He.ga K "BadNetwork")] = some false) && decide (PySem.W.kitOne K (.ref (He.ga K "BadTarget")) (.ref (He.ga K "CopiesError")) = some true)))
def kitsH (K : PySem.W.Frag) : Bool := (["NoneType", "str", "dict", "list"] : List String).all fun t => decide (PySem.W.kitOne K (.type t) (.ref (He.ga K "Habits")) = some false) && PySem.W.notFirst K (He.ga K "Habits") (.type t)
def own (K : PySem.W.Frag) : Bool := habVals.all (hvB K) && (Hx.clsB K (He.ga K "BadHabit") Ge.vlTail "ValueError.__new__" && (Hx.clsB K (He.ga K "BadTarget") Ge.vlTail "ValueError.__new__" && (errB K && (Hk.excB K (He.ga K "BadHabit") && (Hk.excB K (He.ga K "BadTarget") && (Hk.insB K (He.ga K "Habits") && (He.eqO (PySem.W.findIn K (.ref (He.ga K "Habits")) "__ne__") (some (some (.builtin "object.__ne__"))) && (PySem.W.notFirst K (He.ga K "Habits") (.ref (He.ga K "Habits")) && (kitsH K && (Hb.crB K (He.ga K "Table") && (Hb.cvS K (He.ga K "Table") "KEY" "key")))))))))))
abbrev R : PySem.W.OpenRow := PySem.W.OpenLaw.row PySem.Challenge.rw_filteredcopies_k15_targets
abbrev qv : Program := PySem.W.view R.prog [31]
def names0 : List Str := ["_wall", "LONGEST_WORD", "is_word", "copied", "CopiesError", "BadColumn", "BadTable", "BadHabit", "BadTarget", "BadNetwork", "NoColumn", "VALUES", "Habits", "Column"]
def names1 : List Str := ["Table", "TABLE", "Target", "_law_source", "_law_draw", "_law_of", "_law_integer", "_law_word", "_law_odd", "_law_told", "_law_due"]
def names : List Str := names0 ++ (names1)
abbrev hk : PySem.W.Hook := Hd2.hook 6 fa fn tabs own
def ob (s : PySem.W.SharedT) : Hd2.Al := Hd2.obG 6 fa fn tabs own (HandSHeadRun.getT s)
theorem ob_eq (s : PySem.W.SharedT) : ob s = hk.obs s.abs := Hd2.obG_eq (HandSHeadRun.getT_eq s)
theorem run1 (w : World) : HandSHeadRun.RunEq R qv hk ob 9000 names (w.withFollow "special-get-raises" false) := by intro os; kernel_rfl
theorem run2 (w : World) : HandSHeadRun.RunEq R qv hk ob 9000 names (w.withFollow "special-get-raises" true) := by intro os; kernel_rfl
theorem run (w : World) : HandSHeadRun.RunEq R qv hk ob 9000 names w :=
  PySem.W.byRow2 "special-get-raises" (P := fun w => HandSHeadRun.RunEq R qv hk ob 9000 names w) run1 run2 w
end Lw

set_option Elab.async false
set_option linter.all false
set_option maxRecDepth 100000
set_option maxHeartbeats 4000000
namespace Lw
open PySem PySem.Spec PyProof.Rows L2 Lg
section
variable {K : PySem.W.Frag} {h : Heap} {mg : Str → Option Value} {w : World}
theorem f_glo (X : K.In h) (G : h.Ns mainGlobals mg) (c : Hd2.Says fa fn tabs own w K) {x : Str} (hx : x ∈ glos) : mg x = some (.ref (He.ga K x)) :=
  He.glo_ok X G (c.fact (f := .glo x) (List.mem_append_left _ (List.mem_map_of_mem hx)))
theorem f_free (X : K.In h) (G : h.Ns mainGlobals mg) (c : Hd2.Says fa fn tabs own w K) {x : Str} (hx : x ∈ frees) : mg x = none :=
  He.free_ok X G (c.fact (f := .free x) (List.mem_append_right _ (List.mem_append_left _ (List.mem_map_of_mem hx))))
theorem f_one (c : Hd2.Says fa fn tabs own w K) {f : He.Fa} (hf : f ∈ fas) : f.ok K = true := c.fact (List.mem_append_right _ (List.mem_append_right _ hf))
theorem f_hv {dV : Addr} (D : ∃ es n, KDict K w dV es n) (hd : dV = He.ga K "VALUES") (h : habVals.all (hvB K) = true) : ∀ q ∈ habVals, ∃ a, KDct K w dV q.1 (.ref a) ∧ ∀ H, SqT K H a (q.2.map V.str) := fun q hq => by
  have z := List.all_eq_true.mp h q hq
  subst hd
  unfold hvB at z
  split at z
  · rename_i t e
    obtain ⟨es, n, D⟩ := D
    exact ⟨t, ⟨es, n, _, D.at_, D.lit, e, rfl⟩, fun H => tupB_ok z⟩
  · cases z
end
theorem facts {P : Program} {w : World} {K : PySem.W.Frag} {h : Heap} {mg : Str → Option Value} {f : Addr} (X : K.In h) (G : h.Ns mainGlobals mg) (hfa : mg ("law" : Str) = some (.ref f)) (c : Hd2.Says fa fn tabs own w K) :
    ∃ fd : FuncData, (∀ (s : Shared) (v : Value), BindsTo s fd ⟨[v], []⟩ [("script", v)]) ∧ ∀ base : Heap, K.In base → base.Ns mainGlobals mg → FnOk P w K mg base CX0 9 f fd ["script"] (spLaw K) := by
  have gl : ∀ {x : Str}, x ∈ glos → mg x = some (.ref (He.ga K x)) := fun hx => f_glo X G c hx
  have fr : ∀ {x : Str}, x ∈ frees → mg x = none := fun hx => f_free X G c hx
  have fc : ∀ {f : He.Fa}, f ∈ fas → f.ok K = true := fun hf => f_one c hf
  have oo := c.2.2
  obtain ⟨oV, oo⟩ := He.ba oo
  obtain ⟨oR1, oo⟩ := He.ba oo
  obtain ⟨oR2, oo⟩ := He.ba oo
  obtain ⟨oR3, oo⟩ := He.ba oo
  obtain ⟨oR4, oo⟩ := He.ba oo
  obtain ⟨oR5, oo⟩ := He.ba oo
  obtain ⟨oH1, oo⟩ := He.ba oo
  obtain ⟨oH2, oo⟩ := He.ba oo
  obtain ⟨oH3, oo⟩ := He.ba oo
  obtain ⟨oH4, oo⟩ := He.ba oo
  obtain ⟨oT1, oo⟩ := He.ba oo
  have oT2 := oo
  obtain ⟨d0, D0⟩ := c.1.def_ 0 (d := dG "is_word" sIsWord) rfl
  obtain ⟨d1, D1⟩ := c.1.def_ 1 (d := dG "copied" sCopied) rfl
  obtain ⟨d2, D2⟩ := c.1.def_ 2 (d := dM "BadHabit" "__init__" "BadHabit.__init__" sBhI) rfl
  obtain ⟨d3, D3⟩ := c.1.def_ 3 (d := dM "BadTarget" "__init__" "BadTarget.__init__" sBtI) rfl
  obtain ⟨d4, D4⟩ := c.1.def_ 4 (d := dG "_law_draw" sDraw) rfl
  obtain ⟨d5, D5⟩ := c.1.def_ 5 (d := dG "_law_source" sSource) rfl
  obtain ⟨d6, D6⟩ := c.1.def_ 6 (d := dG "_law_of" sOf) rfl
  obtain ⟨d7, D7⟩ := c.1.def_ 7 (d := dG "_law_word" sWord) rfl
  obtain ⟨d8, D8⟩ := c.1.def_ 8 (d := dG "_law_odd" sOddL) rfl
  obtain ⟨d9, D9⟩ := c.1.def_ 9 (d := dM "Habits" "__init__" "Habits.__init__" sHabI [("present", .str "stop"), ("lacking", .str "stop"), ("gone", .str "stop"), ("shared", .str "one")]) rfl
  obtain ⟨d10, D10⟩ := c.1.def_ 10 (d := dM "Habits" "named" "Habits.named" sNamed) rfl
  obtain ⟨d11, D11⟩ := c.1.def_ 11 (d := dM "Habits" "__eq__" "Habits.__eq__" sHabE) rfl
  obtain ⟨d12, D12⟩ := c.1.def_ 12 (d := dM "Target" "__init__" "Target.__init__" sTgtI) rfl
  obtain ⟨d13, D13⟩ := c.1.def_ 13 (d := dG "_law_integer" sInt) rfl
  obtain ⟨d14, D14⟩ := c.1.def_ 14 (d := dG "_law_told" sTold) rfl
  obtain ⟨d15, D15⟩ := c.1.def_ 15 (d := dG "_law_due" sDue) rfl
  obtain ⟨d16, D16⟩ := c.1.def_ 16 (d := dG "law" sLaw) rfl
  have e := hfa.symm.trans (gl (x := "law") (by decide +kernel))
  cases e
  refine ⟨d16, fun s v => FunD.bindsA (ps := ["script"]) D16 (fun _ _ _ _ _ _ us hl => match us, hl with | [_], _ => rfl) s [v] rfl, fun base KB GB => ?_⟩
  have TD : TxtD mg := ⟨fr (by decide +kernel), fr (by decide +kernel), fr (by decide +kernel), fr (by decide +kernel)⟩
  have TP : TxtP mg := ⟨fr (by decide +kernel), fr (by decide +kernel), fr (by decide +kernel), fr (by decide +kernel), fr (by decide +kernel), fr (by decide +kernel), fr (by decide +kernel), fr (by decide +kernel), fr (by decide +kernel), He.int_ok X G (fc (f := .int "LONGEST_WORD" 8) (List.mem_of_getElem? (i := 4) rfl))⟩
  have TH : TxtHb K (He.ga K "Habits") := ⟨He.cls_ok (fc (f := .cls "Habits") (List.mem_of_getElem? (i := 0) rfl)), He.noat_ok (fc (f := .noat "Habits" "present") (List.mem_of_getElem? (i := 6) rfl)), He.noat_ok (fc (f := .noat "Habits" "lacking") (List.mem_of_getElem? (i := 7) rfl)), He.noat_ok (fc (f := .noat "Habits" "gone") (List.mem_of_getElem? (i := 8) rfl)), He.noat_ok (fc (f := .noat "Habits" "shared") (List.mem_of_getElem? (i := 9) rfl))⟩
  have HV : HabV K w mg (He.ga K "VALUES") := ⟨gl (by decide +kernel), c.ky 0 (t := (fun K => He.ga K "VALUES", habNames)) rfl, f_hv (c.tab 0 (t := (fun K => He.ga K "VALUES", habNames)) rfl) rfl oV⟩
  have cW : Cal P w K mg base CX0 "is_word" 1 ["value"] (spIsWord K) := ⟨_, _, gl (by decide +kernel), D0.kp, ok_isWord D0 TP, D0.bindsN fun _ _ _ _ _ _ us hl => match us, hl with | [_], _ => rfl⟩
  have cC1 : Cal P w K mg base CX0 "copied" 1 ["value"] (spCopF K) := ⟨_, _, gl (by decide +kernel), D1.kp, ok_copF D1 ⟨fr (by decide +kernel), fr (by decide +kernel), fr (by decide +kernel), fr (by decide +kernel)⟩, D1.bindsN fun _ _ _ _ _ _ us hl => match us, hl with | [_], _ => rfl⟩
  obtain ⟨r1, r⟩ := He.ba oR3
  obtain ⟨r2, r⟩ := He.ba r
  obtain ⟨r3, r4⟩ := He.ba r
  obtain ⟨excB, xfB⟩ := Hk.excB_ok oR4
  obtain ⟨excT, xfT⟩ := Hk.excB_ok oR5
  have MB := He.meth_ok (fc (f := .meth "BadHabit" "__init__") (List.mem_of_getElem? (i := 18) rfl))
  have MT := He.meth_ok (fc (f := .meth "BadTarget" "__init__") (List.mem_of_getElem? (i := 19) rfl))
  have TRB : TxtBh K mg (He.ga K "BadHabit") "ValueError.__new__" := ⟨Hx.oexB_ok Ge.tl_vl oR1, He.eqO_ok r1, gl (by decide +kernel)⟩
  have TRT : TxtBt K mg (He.ga K "BadTarget") "ValueError.__new__" := ⟨Hx.oexB_ok Ge.tl_vl oR2, He.eqO_ok r2, gl (by decide +kernel)⟩
  have BH : BhT P w K mg base (He.ga K "BadHabit") := ⟨_, _, _, TRB, PySem.F.excBase_ValueError, MB.at_, beq_iff_eq.mp MB.fn, ok_bhI D2 TRB cC1, D2.bindsN fun _ _ _ _ _ _ us hl => match us, hl with | [_, _], _ => rfl⟩
  have BT : BtT P w K mg base (He.ga K "BadTarget") := ⟨_, _, _, TRT, PySem.F.excBase_ValueError, MT.at_, beq_iff_eq.mp MT.fn, ok_btI D3 TRT cC1, D3.bindsN fun _ _ _ _ _ _ us hl => match us, hl with | [_, _], _ => rfl⟩
  have cD := cal_draw (P := P) (w := w) (base := base) TD ⟨_, _, gl (by decide +kernel), D4⟩
  have cS : Cal P w K mg base CX0 "_law_source" 1 ["script", "place"] (spSource K) := ⟨_, _, gl (by decide +kernel), D5.kp, ok_source D5 TD, D5.bindsN fun _ _ _ _ _ _ us hl => match us, hl with | [_, _], _ => rfl⟩
  have cOf : Cal P w K mg base CX0 "_law_of" 2 ["source", "some"] (spOf K) := ⟨_, _, gl (by decide +kernel), D6.kp, ok_of D6 TD cD, D6.bindsN fun _ _ _ _ _ _ us hl => match us, hl with | [_, _], _ => rfl⟩
  have cWd : Cal P w K mg base CX0 "_law_word" 2 ["source", "taken"] (spWord K) := ⟨_, _, gl (by decide +kernel), D7.kp, ok_word D7 TD cD, D7.bindsN fun _ _ _ _ _ _ us hl => match us, hl with | [_, _], _ => rfl⟩
  have cOd : Cal P w K mg base CX0 "_law_odd" 3 ["source"] (spOddF) := ⟨_, _, gl (by decide +kernel), D8.kp, ok_odd D8 cOf, D8.bindsN fun _ _ _ _ _ _ us hl => match us, hl with | [_], _ => rfl⟩
  have FHa := ok_habV (P := P) (w := w) (base := base) D9 TH BH HV
  obtain ⟨i1, i⟩ := He.ba oH1
  obtain ⟨i2, i⟩ := He.ba i
  obtain ⟨i3, i4⟩ := He.ba i
  have HC : TxtHc K (He.ga K "Habits") := ⟨TH.cl, He.eqO_ok i1, of_decide_eq_true i3, of_decide_eq_true i4, of_decide_eq_true i2⟩
  have kt : ∀ t ∈ (["NoneType", "str", "dict", "list"] : List String), PySem.W.kitOne K (.type t) (.ref (He.ga K "Habits")) = some false ∧ PySem.W.notFirst K (He.ga K "Habits") (.type t) = true := fun t ht => ⟨of_decide_eq_true (He.ba (List.all_eq_true.mp oH4 t ht)).1, (He.ba (List.all_eq_true.mp oH4 t ht)).2⟩
  have KH : KitH K (He.ga K "Habits") := ⟨(kt "NoneType" (by simp)).1, (kt "str" (by simp)).1, (kt "dict" (by simp)).1, (kt "list" (by simp)).1⟩
  have WN := He.meth_ok (fc (f := .meth "Habits" "named") (List.mem_of_getElem? (i := 13) rfl))
  have WE := He.meth_ok (fc (f := .meth "Habits" "__eq__") (List.mem_of_getElem? (i := 14) rfl))
  have FN := ok_named (P := P) (w := w) (mg := mg) (base := base) D10 TH
  have bN : Binds K d10 ["self"] [] := D10.bindsN fun _ _ _ _ _ _ us hl => match us, hl with | [_], _ => rfl
  have GH : mg "Habits" = some (.ref (He.ga K "Habits")) := gl (by decide +kernel)
  have MkH := He.mkr_ok (fc (f := .mkr "Habits") (List.mem_of_getElem? (i := 1) rfl))
  have TG : TxtG K mg (He.ga K "Target") (He.ga K "Table") := ⟨He.cls_ok (fc (f := .cls "Target") (List.mem_of_getElem? (i := 2) rfl)), He.noat_ok (fc (f := .noat "Target" "name") (List.mem_of_getElem? (i := 10) rfl)), He.noat_ok (fc (f := .noat "Target" "columns") (List.mem_of_getElem? (i := 11) rfl)), He.noat_ok (fc (f := .noat "Target" "habits") (List.mem_of_getElem? (i := 12) rfl)), He.str_ok X G (fc (f := .str "TABLE" "table") (List.mem_of_getElem? (i := 5) rfl)), gl (by decide +kernel), Hb.crB_ok oT1, Hb.cvS_ok oT2, fr (by decide +kernel), fr (by decide +kernel)⟩
  have MkG := He.mkr_ok (fc (f := .mkr "Target") (List.mem_of_getElem? (i := 3) rfl))
  have FG4 := ok_tgt (P := P) (w := w) (base := base) (ks := ["present", "lacking", "gone", "shared"]) (gv := gv4) D12 kwb4 (by decide) (by decide) TG BT cW MkH D9 FHa GH (by obtain ⟨m, h⟩ := hb_4 D9; exact ⟨_, h⟩)
  have FG0 := ok_tgt (P := P) (w := w) (base := base) (ks := []) (gv := gv0) D12 kwb0 (by decide) (by decide) TG BT cW MkH D9 FHa GH (by obtain ⟨m, h⟩ := hb_n D9; exact ⟨_, h⟩)
  have FG2 := ok_tgt (P := P) (w := w) (base := base) (ks := ["gone", "present"]) (gv := gvgp) D12 kwb2 (by decide) (by decide) TG BT cW MkH D9 FHa GH (by obtain ⟨m, h⟩ := hb_gp D9; exact ⟨_, h⟩)
  have TT : TxtT K mg (He.ga K "BadTarget") (He.ga K "BadHabit") (He.ga K "BadNetwork") (He.ga K "CopiesError") := ⟨fr (by decide +kernel), fr (by decide +kernel), fr (by decide +kernel), fr (by decide +kernel), fr (by decide +kernel), gl (by decide +kernel), gl (by decide +kernel), gl (by decide +kernel), gl (by decide +kernel), excT, xfT, xfB, He.eqO_ok r2, He.eqO_ok r1, He.exm_ok (fc (f := .exm "BadTarget" "BadTarget" true) (List.mem_of_getElem? (i := 16) rfl)), He.exm_ok (fc (f := .exm "BadHabit" "BadTarget" false) (List.mem_of_getElem? (i := 17) rfl)), He.exm_ok (fc (f := .exm "BadHabit" "BadHabit" true) (List.mem_of_getElem? (i := 15) rfl)), of_decide_eq_true r3, of_decide_eq_true r4⟩
  have tg : Cls K (He.ga K "Target") ∧ NoAttr K (He.ga K "Target") "name" ∧ NoAttr K (He.ga K "Target") "columns" ∧ NoAttr K (He.ga K "Target") "habits" := ⟨TG.cl, TG.n1, TG.n2, TG.n3⟩
  have cTo : Cal P w K mg base CX0 "_law_told" 8 ["name", "columns", "habits"] (spTold15) := ⟨_, _, gl (by decide +kernel), D14.kp, ok_told D14 TT tg TH (gl (by decide +kernel)) MkG FG4 (gl (by decide +kernel)) D13.kp (ok_intH D13 TT) (D13.bindsN fun _ _ _ _ _ _ us hl => match us, hl with | [_], _ => rfl), D14.bindsN fun _ _ _ _ _ _ us hl => match us, hl with | [_, _, _], _ => rfl⟩
  have cDu : Cal P w K mg base CX0 "_law_due" 1 ["name", "columns", "wrong", "habits"] (spDue15) := ⟨_, _, gl (by decide +kernel), D15.kp, ok_due D15 (fr (by decide +kernel)) (fr (by decide +kernel)) (fr (by decide +kernel)) (fr (by decide +kernel)), D15.bindsN fun _ _ _ _ _ _ us hl => match us, hl with | [_, _, _, _], _ => rfl⟩
  exact ok_law D16 ⟨cS, cD, cOf, cWd, cOd, cTo, cDu, ⟨_, MkG, FG0, FG2⟩, ⟨_, _, MkH, D9, FHa⟩, ⟨_, _, ⟨WE.at_, He.eqO_ok oH2, WE.fn, HC.hm⟩, ok_habE D11 HC KH GH (fr (by decide +kernel)) WN FN bN, D11.bindsN fun _ _ _ _ _ _ us hl => match us, hl with | [_, _], _ => rfl⟩, oH3, tg, TH, HC, gl (by decide +kernel), GH, fr (by decide +kernel), fr (by decide +kernel), fr (by decide +kernel), fr (by decide +kernel), fr (by decide +kernel), fr (by decide +kernel), fr (by decide +kernel)⟩
end Lw

open PySem PySem.W PyProof.Rows in
theorem PySem.Challenge.cw_filteredcopies_k15_targets_holds : PySem.Challenge.rw_filteredcopies_k15_targets.Holds := by
  w_on; o_law
  refine HandSHeadRun.head_any (r := Lw.R) (q := Lw.qv) (H := Lw.hk) (ob := Lw.ob) (M := 9000) (loose := Lw.names) (d := HandSHeadRun.topDef Lw.R.prog 31) (kwd := []) Lw.ob_eq
    (by kernel_rfl) (fun s => by kernel_rfl) Lw.run (by kernel_rfl) (by kernel_rfl) (by kernel_rfl) (by rfl) (by first | assumption | decide +kernel) (by decide +kernel) ⟨rfl, rfl, rfl, rfl, rfl, by decide +kernel⟩ ?hw ?hc
  case hw => w_witness2
  case hc =>
    refine L2.walk_ofE (l := PySem.Challenge.rw_filteredcopies_k15_targets) (n := 63) (k := 9) (x := "script") (CX := L2.CX0) rfl (by decide) (by kernel_rfl) ⟨rfl, by decide, by decide⟩ ?F (fun _ _ _ _ z => z)
    intro w mg fa h Y G hmg0
    obtain ⟨K, KX, c⟩ := Y
    have hmg : mg ("law" : PySem.Str) = some (.ref fa) := by
      have e : (HandSHeadRun.topDef Lw.R.prog 31).name = ("law" : PySem.Str) := by kernel_rfl
      rw [← e]
      exact hmg0
    obtain ⟨fd, hb, hF⟩ := Lw.facts (P := (PySem.Challenge.rw_filteredcopies_k15_targets).prog) (w := w) KX G hmg c
    exact ⟨K, fd, Lw.spLaw K, KX, hb, fun H a ns hl _ hS => ⟨a, ns, rfl, hS, hl, fun _ => rfl⟩, hF⟩
