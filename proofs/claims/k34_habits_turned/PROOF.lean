import PyProof.Rows.All
import Wide.All
import OpenK.AllK
import Wide.FinOn
import HandS.Base
import HandS.Call
import HandS.List
import HandS.Comp
import HandS.Dict
import HandS.Iter
import HandS.Text
import HandS.Ends
import HandS.Words
import HandS.WordsList
import HandS.Exc
import HandS.ExcOwn
import HandS.TryOnly
import HandS.ExcInit
import HandS.More
import HandS.Defaults
import HandS.Walk
import KE.KExcIs
import HandS.IsInst
import HandS.ExcIs
import HandS.ExcField
import HandS.Style
import HandS.WordsExc
import HandS.Head0
import HandS.Head1
import HandS.Head2
import HandS.HeadEnd
import HandS.HeadHook1
import HandS.HeadHook2
import HandS.HeadHook3
import HandS.ExcCtx
import HandS.HotCalls
import HandS.ClsMeth
import HandS.Star
import HandS.MakeKwOnly
import HandS.Wide
import HandS.ListItems
import HandS.Finally
import KE.KDictList
import PyProof.FactsAll.dict_3
import HandS.HeadNt
import HandS.Property
import KE.KExcInit
import PyProof.Rows.RuleB_bool
import HandS.RaiseMore
import PyProof.ReprRoads
import HandS.Lambda
import HandS.HeadHook4
import HandS.HeadWalk
import HandS.WordsDict
import KE.KEqNest
import KE.KDictLaw
import HandS.DictComp
import HandS.OwnEq
import PyProof.DictUpdate
import HandS.NoneIn
import HandS.Conv
import PyProof.FactsAll.dict_4
import PySem.Challenge.RW_filteredcopies_k34_habits_turned
set_option Elab.async false
set_option linter.all false
set_option maxRecDepth 100000
set_option maxHeartbeats 4000000
namespace Lw
open PySem PySem.Spec PyProof.Rows L2
abbrev MethD (K : PySem.W.Frag) (x q : Str) (st : Stmt) (f : Addr) (fd : FuncData) : Prop := FunD K x q (defArgs st) (defBody st) (defScope st) [] [] f fd
/-! heaps: all but what stands at a is kept -/
def Keep (a : Addr) (H H' : Hp) : Prop := ∀ b o, b ≠ a → H b = some o → H' b = some o
theorem Keep.refl {a : Addr} (H : Hp) : Keep a H H := fun _ _ _ h => h
theorem Keep.trans {a : Addr} {H H1 H2 : Hp} (x : Keep a H H1) (y : Keep a H1 H2) : Keep a H H2 := fun b o n h => y b o n (x b o n h)
theorem Keep.of_same {a : Addr} {H H' : Hp} (s : Same H H') : Keep a H H' := fun b o _ h => s b o h
theorem Keep.upd {a : Addr} {H H' : Hp} {o : HO} (k : Keep a H H') : Keep a H (upd H' a o) := fun b u n h => by
  rw [upd_ne n]
  exact k b u n h
theorem Keep.new {a p : Addr} {H H' : Hp} {o : HO} (k : Keep a H H') (hp : H' p = none) : Keep a H (L2.upd H' p o) := fun b u n h => by
  rw [upd_ne (ne_of_none (k b u n h) hp)]
  exact k b u n h
theorem Keep.seq {K : PySem.W.Frag} {a b : Addr} {H H' : Hp} {xs : List V} (k : Keep a H H') (n : b ≠ a) (h : SqL K H b xs) : SqL K H' b xs := by
  rcases h with (h | ⟨o, h⟩) | h
  · exact .inl (.inl (k _ _ n h))
  · exact .inl (.inr ⟨o, k _ _ n h⟩)
  · exact .inr h
theorem Keep.seqT {K : PySem.W.Frag} {a b : Addr} {H H' : Hp} {xs : List V} (k : Keep a H H') (n : b ≠ a) (h : SqT K H b xs) : SqT K H' b xs := by
  rcases h with (h | ⟨o, h⟩) | h
  · exact .inl (.inl (k _ _ n h))
  · exact .inl (.inr ⟨o, k _ _ n h⟩)
  · exact .inr h
/-- the drawing's source: three numbers; n bounds how often was drawn -/
def Src (H : Hp) (a : Addr) (n : Nat) : Prop := ∃ d s t : Int, H a = some (.lst [.int d, .int s, .int t]) ∧ 0 ≤ d ∧ 0 ≤ s ∧ s < 9223372036854775808 ∧ 0 ≤ t ∧ t ≤ (n : Int)
theorem Src.mono {H : Hp} {a : Addr} {n m : Nat} (h : Src H a n) (l : n ≤ m) : Src H a m := by
  obtain ⟨d, s, t, h1, h2, h3, h4, h5, h6⟩ := h
  exact ⟨d, s, t, h1, h2, h3, h4, h5, by omega⟩
theorem Src.new {H : Hp} {a p : Addr} {n : Nat} {o : HO} (h : Src H a n) (hp : H p = none) : Src (upd H p o) a n := by
  obtain ⟨d, s, t, h1, h2⟩ := h
  exact ⟨d, s, t, by rw [upd_ne (ne_of_none h1 hp)]; exact h1, h2⟩
theorem Src.ne {H : Hp} {a p : Addr} {n : Nat} (h : Src H a n) (hp : H p = none) : p ≠ a := by
  obtain ⟨d, s, t, h1, _⟩ := h
  exact (ne_of_none h1 hp).symm
abbrev big : Nat := 1000000000
/-! steps: a statement's reading by what its expression comes to -/
section
variable {te : TE} {c : TT} {u v t1 t2 : TS} {D : Ends} {σ : L2.St} {H : Hp} {i : Nat}
theorem sq_set (P : V → Hp → Prop) (h : ∀ Q : VK, (∀ x H', P x H' → Q x H') → te σ H Q) (k : ∀ x H', P x H' → u D (σ.set i (some x)) H') : tSeq (tAsg te (gName i)) u D σ H := h _ k
theorem s1_set (P : V → Hp → Prop) (h : ∀ Q : VK, (∀ x H', P x H' → Q x H') → te σ H Q) (k : ∀ x H', P x H' → D.nx (σ.set i (some x)) H') : (tAsg te (gName i)) D σ H := h _ k
theorem sq_par {j : Nat} {ta : TA} (P : V → V → Hp → Prop) (h : ∀ Q : List V → Hp → Prop, (∀ x y H', P x y H' → Q [x, y] H') → ta σ H Q) (k : ∀ x y H', P x y H' → u D ((σ.set i (some x)).set j (some y)) H') : tSeq (tPar i j ta) u D σ H := h _ fun x y H' p => ⟨x, y, rfl, k x y H' p⟩
theorem sq_do (P : V → Hp → Prop) (h : ∀ Q : VK, (∀ x H', P x H' → Q x H') → te σ H Q) (k : ∀ x H', P x H' → u D σ H') : tSeq (tDrop te) u D σ H := h _ k
theorem sq_if (P : Bool → Hp → Prop) (h : ∀ Q : Bool → Hp → Prop, (∀ b H', P b H' → Q b H') → c σ H Q) (kt : ∀ H', P true H' → t1 { D with nx := u D } σ H') (kf : ∀ H', P false H' → t2 { D with nx := u D } σ H') : tSeq (tIfS c t1 t2) u D σ H :=
  h _ fun b H' p => by
    cases b with
    | true => rw [if_pos rfl]; exact kt H' p
    | false => rw [if_neg Bool.false_ne_true]; exact kf H' p
theorem sq_if1 (P : Bool → Hp → Prop) (h : ∀ Q : Bool → Hp → Prop, (∀ b H', P b H' → Q b H') → c σ H Q) (kt : ∀ H', P true H' → t1 { D with nx := u D } σ H') (kf : ∀ H', P false H' → u D σ H') : tSeq (tIfS c t1 tNext) u D σ H := sq_if P h kt kf
theorem s1_if (P : Bool → Hp → Prop) (h : ∀ Q : Bool → Hp → Prop, (∀ b H', P b H' → Q b H') → c σ H Q) (kt : ∀ H', P true H' → t1 D σ H') (kf : ∀ H', P false H' → t2 D σ H') : (tIfS c t1 t2) D σ H :=
  h _ fun b H' p => by
    cases b with
    | true => rw [if_pos rfl]; exact kt H' p
    | false => rw [if_neg Bool.false_ne_true]; exact kf H' p
theorem s1_ret (P : V → Hp → Prop) (h : ∀ Q : VK, (∀ x H', P x H' → Q x H') → te σ H Q) (k : ∀ x H', P x H' → D.rt x H') : tRet te D σ H := h _ k
end
/-! promises -/
def spSource (K : PySem.W.Frag) : Sp := fun vs H Q _ => ∃ (a : Addr) (ns : List Int) (i : Int), vs = [.ref a, .int i] ∧ SqL K H a (ns.map V.int) ∧ ns.length ≤ 1000 ∧ 0 ≤ i ∧ i ≤ 1000 ∧
  ∀ p H', H p = none → Same H H' → Src H' p 0 → Q (.ref p) H'
def spDraw : Sp := fun vs H Q _ => ∃ (a : Addr) (n : Nat) (m : Int), vs = [.ref a, .int m] ∧ Src H a n ∧ n ≤ 1000000000 ∧ 0 < m ∧ m ≤ 1000000000 ∧
  ∀ H' i, Keep a H H' → Src H' a (n + 1) → 0 ≤ i → i < m → Q (.int i) H'
def spOf (K : PySem.W.Frag) : Sp := fun vs H Q _ => ∃ (a b : Addr) (n : Nat) (xs : List V), vs = [.ref a, .ref b] ∧ Src H a n ∧ n ≤ 1000000000 ∧ b ≠ a ∧ SqL K H b xs ∧ xs ≠ [] ∧ xs.length ≤ 100000 ∧
  ∀ H' x, Keep a H H' → Src H' a (n + 1) → x ∈ xs → Q x H'
def spNumber : Sp := fun vs H Q _ => ∃ (a : Addr) (n : Nat), vs = [.ref a] ∧ Src H a n ∧ n ≤ 900000000 ∧
  ∀ H' i, Keep a H H' → Src H' a (n + 8) → Q (.int i) H'
structure TxtD (mg : Str → Option Value) : Prop where
  len : mg "len" = none
  abs : mg "abs" = none
  int : mg "int" = none
  range : mg "range" = none
abbrev FnP (K : PySem.W.Frag) (x : Str) (st : Stmt) (f : Addr) (fd : FuncData) : Prop := FunD K x x (defArgs st) (defBody st) (defScope st) [] [] f fd
section
variable {P : Program} {w : World} {K : PySem.W.Frag} {mg : Str → Option Value} {base : Heap}
theorem bool_ite {c : Prop} [Decidable c] {A B : Prop} (h1 : c → A) (h2 : ¬ c → B) : if decide c = true then A else B := by
  by_cases h : c
  · rw [decide_eq_true h, if_pos rfl]; exact h1 h
  · rw [decide_eq_false h, if_neg Bool.false_ne_true]; exact h2 h
theorem atI_get {α : Type} {xs : List α} {i : Int} (h0 : 0 ≤ i) (h1 : i < xs.length) : ∃ x, atI xs i = some x ∧ x ∈ xs := by
  have e : i.toNat < xs.length := by omega
  refine ⟨xs[i.toNat], ?_, List.getElem_mem e⟩
  unfold atI ixN
  rw [if_pos h0, if_pos h1]
  simp [e]
theorem fmod_src (x : Int) : 0 ≤ x.fmod 2305843009213693951 ∧ x.fmod 2305843009213693951 < 2305843009213693951 :=
  ⟨Int.fmod_nonneg_of_pos x (by decide), Int.fmod_lt_of_pos x (by decide)⟩

/-! a def of the top, called by its name -/
def DefIs (K : PySem.W.Frag) (mg : Str → Option Value) (x : Str) (st : Stmt) : Prop := ∃ f fd, mg x = some (.ref f) ∧ FnP K x st f fd
structure Cal (P : Program) (w : World) (K : PySem.W.Frag) (mg : Str → Option Value) (base : Heap) (CX : CXT) (x : Str) (k : Nat) (ps : List Str) (sp : Sp) : Prop where
  ex : ∃ f fd, mg x = some (.ref f) ∧ PySem.W.keepIn K (.ref f) = true ∧ FnOk P w K mg base CX k f fd ps sp ∧ Binds K fd ps []
end
section
variable {X : Cx} {x : Str} {p pos : Pos} {e : Expr} {es : List Expr} {t : TA} {k : Nat} {ps : List Str} {sp : Sp}
theorem pe_cal (c : Cal X.prog X.w X.K X.mg X.base CX0 x k ps sp) (hr : Room k X.A) (ha : PA X (e :: es) t) (hg : Gl X x := by rfl) (hdb : (x == ("__debug__" : Str)) = false := by decide)
    (he : starEach (e :: es) X.env = (false, eval e X.env) :: starEach es X.env := by rfl) (hpl : (backTo pos (starEach es X.env)).any (·.1) = false := by rfl) :
    PE X (.Call (.Name x p) (e :: es) [] pos) (tCall sp [] E0 t) := by
  obtain ⟨f, fd, hm, hk, F, b⟩ := c.ex
  exact pe_call F hr hg hm hk b .nil pass0 ha hdb he hpl
end
section
variable {P : Program} {w : World} {K : PySem.W.Frag} {mg : Str → Option Value} {base : Heap}
end
/-! words -/
def IsWord (z : Str) : Prop := 1 ≤ z.length ∧ z.length ≤ 8 ∧ ∀ c ∈ z.cps.toList, 97 ≤ c ∧ c ≤ 122
def abc : List Nat := [97, 98, 99, 100, 101, 102, 103, 104, 105, 106, 107, 108, 109, 110, 111, 112, 113, 114, 115, 116, 117, 118, 119, 120, 121, 122]
def sign (c : Nat) : Str := ⟨#[c]⟩
abbrev letters : Str := "abcdefghijklmnopqrstuvwxyz"
theorem letters_eq : letters = ⟨abc.toArray⟩ := by decide +kernel
theorem abc_le {c : Nat} (h : c ∈ abc) : 97 ≤ c ∧ c ≤ 122 := by
  have h2 : ∀ c ∈ abc, 97 ≤ c ∧ c ≤ 122 := by decide
  exact h2 c h
theorem tl_sign (c : Nat) : (sign c).cps.toList = [c] := rfl
theorem joinL_flat : ∀ l : List (List Nat), TL.joinL [] l = l.flatten
  | [] => rfl
  | [p] => by simp [TL.joinL]
  | p :: q :: r => by
    show p ++ ([] ++ TL.joinL [] (q :: r)) = _
    rw [joinL_flat (q :: r)]
    simp
theorem join_signs (e : Str) (he : e.cps = #[]) (cs : List Nat) : (Txt.join e (cs.map sign)).cps.toList = cs := by
  rw [TL.join_eq]
  have h : (Str.join e (cs.map sign)).cps.toList = TL.joinL e.cps.toList ((cs.map sign).map fun z => z.cps.toList) := TL.tl_join e (cs.map sign)
  rw [h, he]
  show TL.joinL [] _ = _
  rw [joinL_flat, List.map_map]
  clear h
  induction cs with
  | nil => rfl
  | cons c r ih =>
    rw [List.map_cons, List.flatten_cons, ih]
    rfl
theorem nodup_le : ∀ {l ts : List Str}, l.Nodup → (∀ x ∈ l, x ∈ ts) → l.length ≤ ts.length
  | [], _, _, _ => Nat.zero_le _
  | x :: l, ts, hn, hs => by
    have hx : x ∈ ts := hs x List.mem_cons_self
    have hn2 := List.nodup_cons.mp hn
    have ih := nodup_le (l := l) (ts := ts.erase x) hn2.2 fun y hy => by
      have ne : y ≠ x := fun e => hn2.1 (e ▸ hy)
      exact (List.mem_erase_of_ne ne).mpr (hs y (List.mem_cons_of_mem _ hy))
    rw [List.length_erase_of_mem hx] at ih
    have pos : 0 < ts.length := List.length_pos_of_mem hx
    simp only [List.length_cons]
    omega
def cand (w : Str) (c : Nat) : Str := cutS (sign c ++ w) none (some 8)
theorem tl_app (a b : Str) : (a ++ b).cps.toList = a.cps.toList ++ b.cps.toList := by
  rw [PySem.Str.cps_append, Array.toList_append]
theorem len_tl (a : Str) : a.length = a.cps.toList.length := by simp [Str.length]
theorem cand_tl (w : Str) (c : Nat) : (cand w c).cps.toList = (c :: w.cps.toList).take 8 := by
  unfold cand cutS
  have e : (sign c ++ w).cps.toList = c :: w.cps.toList := tl_app _ _
  have l : (sign c ++ w).length = w.cps.toList.length + 1 := by rw [len_tl, e]; rfl
  rw [e, l]
  have h8 : HT.sIx (w.cps.toList.length + 1) (w.cps.toList.length + 1) (some 8) = min 8 (w.cps.toList.length + 1) := HT.sIx_nat _ _ 8
  rw [h8]
  show (List.take (min 8 (w.cps.toList.length + 1) - 0) (List.drop 0 (c :: w.cps.toList))) = _
  rw [Nat.sub_zero, List.drop_zero]
  have : (c :: w.cps.toList).length = w.cps.toList.length + 1 := rfl
  rw [← this, ← List.take_eq_take_min]
theorem cand_word {w : Str} {c : Nat} (h : IsWord w) (hc : c ∈ abc) : IsWord (cand w c) := by
  have e := cand_tl w c
  obtain ⟨h1, h2, h3⟩ := h
  rw [len_tl] at h1 h2
  refine ⟨?_, ?_, fun d hd => ?_⟩
  · rw [len_tl, e]; simp
  · rw [len_tl, e]; simp; omega
  · rw [e] at hd
    rcases List.mem_cons.mp (List.mem_of_mem_take hd) with q | q
    · rw [q]; exact abc_le hc
    · exact h3 d q
theorem cand_inj {w : Str} {c d : Nat} (h : cand w c = cand w d) : c = d := by
  have e : (cand w c).cps.toList = (cand w d).cps.toList := by rw [h]
  rw [cand_tl, cand_tl] at e
  simpa using e
theorem free_some (w : Str) (ts : List Str) (h : ts.length ≤ 25) : abc.filter (fun c => !decide (cand w c ∈ ts)) ≠ [] := by
  intro e
  have ha : ∀ c ∈ abc, cand w c ∈ ts := fun c hc => by
    have := List.filter_eq_nil_iff.mp e c hc
    simpa using this
  have nd : (abc.map (cand w)).Nodup := by
    have h0 : abc.Nodup := by decide
    exact List.Pairwise.map _ (fun a b ne q => ne (cand_inj q)) h0
  have l := nodup_le nd (ts := ts) (fun x hx => by
    obtain ⟨c, hc, rfl⟩ := List.mem_map.mp hx
    exact ha c hc)
  rw [List.length_map] at l
  have : abc.length = 26 := rfl
  omega
theorem inV_str (w : Str) (ts : List Str) : inV (.str w) (ts.map V.str) = decide (w ∈ ts) := by
  unfold inV
  rw [List.any_map]
  apply Bool.eq_iff_iff.mpr
  simp only [List.any_eq_true, Function.comp, decide_eq_true_eq]
  constructor
  · rintro ⟨y, hy, e⟩
    have e2 : (y == w) = true := e
    exact (eq_of_beq e2) ▸ hy
  · intro h
    exact ⟨w, h, beq_self_eq_true w⟩
theorem flat_strs (ts : List Str) : (ts.map V.str).all flatV = true := by
  rw [List.all_map]
  exact List.all_eq_true.mpr fun _ _ => rfl
abbrev nWord : List Str := ["source", "taken", "letters", "word", "free", "turn", "letter"]
def spWord (K : PySem.W.Frag) : Sp := fun vs H Q _ => ∃ (a b : Addr) (n : Nat) (ts : List Str), vs = [.ref a, .ref b] ∧ Src H a n ∧ n ≤ 900000000 ∧ b ≠ a ∧ SqL K H b (ts.map V.str) ∧ ts.length ≤ 25 ∧
  ∀ H' w, Keep a H H' → Src H' a (n + 10) → IsWord w → w ∉ ts → Q (.str w) H'
section
variable {P : Program} {w : World} {K : PySem.W.Frag} {mg : Str → Option Value} {base : Heap}
theorem str_notmem {z : Str} {ts : List Str} {A B : Prop} (h1 : z ∉ ts → A) (h2 : z ∈ ts → B) : if (if true = true then !inV (.str z) (ts.map V.str) else inV (.str z) (ts.map V.str)) = true then A else B := by
  rw [if_pos rfl, inV_str]
  by_cases h : z ∈ ts
  · rw [decide_eq_true h, Bool.not_true, if_neg Bool.false_ne_true]; exact h2 h
  · rw [decide_eq_false h, Bool.not_false, if_pos rfl]; exact h1 h
theorem letters_cps : letters.cps = abc.toArray := by rw [letters_eq]
theorem abc_at {i : Int} (h0 : 0 ≤ i) (h1 : i < 26) : ∃ c, atI letters.cps.toList i = some c ∧ c ∈ abc := by
  rw [letters_cps]
  exact atI_get (xs := abc) h0 (by show i < 26; exact h1)
end
/-! isinstance of a caught error that has its own dict -/
def rIsED (K : PySem.W.Frag) (cls : Value) (d : Option Addr) (a : Addr) : List V → Hp → VK → Prop := fun xs H Q =>
  ∃ (D dd : Addr) (c : V) (cv : Value) (b : Bool) (fs : List (Str × V)), cls = .ref D ∧ d = some dd ∧ ExcC K D ∧ xs = [.ref a, c] ∧ (∀ u, RelV c u → u = cv) ∧ H dd = some (.xd fs) ∧ PySem.W.kitOne K (.ref D) cv = some b ∧ Q (.bl b) H
theorem call_isED {X : Cx} {a : Addr} {cls : Value} {d : Option Addr} {oe : Obj} {pn : List (Addr × Obj)} (hz : Zc cls d oe) (hf : ∃ vs, oe.data = .fields vs) :
    CallR (X.suite a ((a, oe) :: pn)) (.builtin "isinstance") (rIsED X.K cls d a) := by
  intro pins s σ H xs us Q I r h
  obtain ⟨D, dd, c, cv, b, fs, rfl, rfl, C, rfl, hcv, hdd, e, q⟩ := h
  obtain ⟨u1, u2, rfl, r1, r2⟩ := vals2 r
  obtain rfl : u1 = Value.ref a := r1
  obtain rfl := hcv _ r2
  have hp := (I.pin (a, oe) (List.mem_append_left _ List.mem_cons_self)).1
  obtain ⟨mA, hns, _⟩ := (show ObjOk X.prog X.w H s.heap dd (.xd fs) from I.hok dd _ hdd)
  obtain ⟨od, ho, _⟩ := lookIn_ns hns
  obtain ⟨vs, hv⟩ := hf
  have J : PySem.W.InstAt s.heap a oe D (some od) := ⟨hp, hz.1, by unfold PySem.W.notCls; rw [hv] <;> rfl, by rw [hz.2]; exact ho⟩
  have hc : (PySem.W.clsIn X.K D).isSome = true := by
    have z := C.hd
    unfold PySem.W.hasDictIn at z
    cases q : PySem.W.clsIn X.K D with
    | none => rw [q] at z; cases z
    | some y => rfl
  exact PySem.W.kia_one (PySem.W.kitx_exc hc C.hg C.hk C.hs C.ha C.hn C.ht C.hm) I.kIn J e (fun z => nomatch z) fun tk => ⟨.bl b, H, I.tok tk, rfl, q⟩
/-! f(k = v, ..), nothing by position, what it raises wished for at the caller's slots -/
def tCallKS (m : Nat) (sp : Sp) (gV : List V → List V → List V) (E : L2.St → XK) (tk : TA) : TE := fun σ H Q => tk σ H fun zs H2 => zs.length = m ∧ sp (gV [] zs) H2 Q (E σ)
section
variable {X : Cx} {CX : CXT} {k : Nat} {f : Addr} {fd : FuncData} {ps ks : List Str} {sp : Sp} {E : L2.St → XK} {x : Str} {p pos : Pos} {kws : List Keyword} {tk : TA} {g : List Value → List Value → List Value} {gV : List V → List V → List V}
theorem pe_callKS (F : FnOk X.prog X.w X.K X.mg X.base CX k f fd ps sp) (hr : Room k X.A) (hm : X.mg x = some (.ref f)) (hk : PySem.W.keepIn X.K (.ref f) = true) (hb : KBn X.K fd ps 0 ks g gV) (hx : ∀ σ, PassesAt CX X σ (E σ)) (hkw : PK X kws tk)
    (hg : Gl X x := by rfl) (hall : (backToKw pos (keywordEach kws X.env)).all (·.1.isSome) = true := by rfl) (hks : (backToKw pos (keywordEach kws X.env)).filterMap (·.1) = ks := by rfl) (hdb : (x == ("__debug__" : Str)) = false := by decide)
    (hpl : ((backTo pos (starEach [] X.env)).any (·.1) || (backToKw pos (keywordEach kws X.env)).any (·.1.isNone)) = false := by rfl) :
    PE X (.Call (.Name x p) [] kws pos) (tCallKS ks.length sp gV E tk) := by
  refine ⟨fun pins s σ H Q I h => wpAny_Call_Name_kw (ld_glob I hg hm ?_ hdb)⟩
  refine PySem.W.callWith_KW0 (h₀ := X.base) I.ok.mod.kin hk hall (thn (hkw.run pos pins s σ H _ I h) fun ws s2 ⟨zs, H2, I2, rz, l2, q2⟩ => ⟨I2.kIn, ?_⟩) hpl
  rw [hks]
  have r2 := hb.rel .nil rz
  have bt := hb.to s2 [] ws I2.kIn rfl (rz.length.symm.trans l2)
  refine wpAny_call (codeAny_mono (F.run X.A X.stack s2 H2 ⟨[], ks.zip ws⟩ (g [] ws) (gV [] zs) Q (E σ) hr I2.env0 bt r2 q2) fun r s' hq => ?_)
  match r, hq with
  | .error e, hq => exact hx σ pins H2 s2 e s' I2 hq
  | .ok (.ret u), hq => exact I2.after hq
  | .ok .next, hq => exact hq.elim
  | .ok .brk, hq => exact hq.elim
  | .ok .cont, hq => exact hq.elim
end
structure TxtP (mg : Str → Option Value) : Prop where
  isi : mg "isinstance" = none
  int : mg "int" = none
  bool : mg "bool" = none
  str : mg "str" = none
  list : mg "list" = none
  tuple : mg "tuple" = none
  dict : mg "dict" = none
  len : mg "len" = none
  all : mg "all" = none
  longest : ∃ t, mg "LONGEST_WORD" = some (.int 8 t)
/-- a value of a built-in type t -/
def IsTy (K : PySem.W.Frag) (H : Hp) (v : V) (t : String) : Prop := TyX K H v (.type t)
def NotTy (K : PySem.W.Frag) (H : Hp) (v : V) (c : String) : Prop := ∃ t, TyX K H v (.type t) ∧ kitB t c = some false
def isWordB (z : Str) : Bool := decide (1 ≤ z.length) && (decide (z.length ≤ 8) && z.cps.toList.all fun c => decide (97 ≤ c) && decide (c ≤ 122))
theorem isWordB_iff (z : Str) : isWordB z = true ↔ IsWord z := by
  unfold isWordB IsWord
  simp only [Bool.and_eq_true, decide_eq_true_eq, List.all_eq_true]
theorem isWordB_true {z : Str} (h : IsWord z) : isWordB z = true := (isWordB_iff z).mpr h
theorem isWordB_false {z : Str} (h : ¬ IsWord z) : isWordB z = false := by
  cases e : isWordB z with
  | false => rfl
  | true => exact absurd ((isWordB_iff z).mp e) h
def spIsInteger (K : PySem.W.Frag) : Sp := fun vs H Q _ => ∃ (v : V) (b : Bool), vs = [v] ∧
  ((b = true ∧ ∃ i, v = .int i) ∨ (b = false ∧ ((∃ c, v = .bl c) ∨ NotTy K H v "int"))) ∧ Q (.bl b) H
def spIsWord (K : PySem.W.Frag) : Sp := fun vs H Q _ => ∃ (v : V) (b : Bool), vs = [v] ∧
  ((∃ z, v = .str z ∧ z.length ≤ 1000 ∧ b = isWordB z) ∨ (b = false ∧ NotTy K H v "str")) ∧ ∀ H', Same H H' → Q (.bl b) H'
def spCopied (K : PySem.W.Frag) : Sp := fun vs H Q _ => ∃ (v : V), vs = [v] ∧ NotTy K H v "list" ∧ NotTy K H v "tuple" ∧ NotTy K H v "dict" ∧ Q v H
section
variable {P : Program} {w : World} {K : PySem.W.Frag} {mg : Str → Option Value} {base : Heap}
theorem ty_int {H : Hp} (i : Int) : TyX K H (.int i) (.type "int") := .base (.int i)
theorem ty_bl {H : Hp} (i : Bool) : TyX K H (.bl i) (.type "bool") := .base (.bl i)
theorem ty_str {H : Hp} (i : Str) : TyX K H (.str i) (.type "str") := .base (.str i)
theorem ty_non {H : Hp} : TyX K H .non (.type "NoneType") := .base .non
theorem lt_sign (c d : Nat) : decide (([c] : List Nat) < [d]) = decide (c < d) := by
  have : (([c] : List Nat) < [d]) ↔ c < d := by
    rw [List.cons_lt_cons_iff]
    simp
  simp only [this]
end
theorem exc_end {H : Hp} {a C d : Addr} {fs : List (Str × V)} (na : H a = none) (nd : upd H a (exo a C none) d = none) (da : d ≠ a) :
    H d = none ∧ Same H (upd (del (upd (upd (upd H a (exo a C none)) d (exd d fs)) a (exo a C (some d))) a) d (.xd fs)) := by
  have n2 : H d = none := by rw [upd_ne da] at nd; exact nd
  refine ⟨n2, fun b o h => ?_⟩
  rw [upd_ne (ne_of_none h n2), del_ne (ne_of_none h na), upd_ne (ne_of_none h na), upd_ne (ne_of_none h n2), upd_ne (ne_of_none h na)]
  exact h
theorem Same.new {H H1 : Hp} {p : Addr} {o : HO} (s : Same H H1) (h : H1 p = none) : Same H (upd H1 p o) := fun b u e => by
  rw [upd_ne (ne_of_none (s b u e) h)]
  exact s b u e
section
variable {P : Program} {w : World} {K : PySem.W.Frag} {mg : Str → Option Value} {base : Heap}
theorem nt_str {H : Hp} (z : Str) : NotTy K H (.str z) "list" ∧ NotTy K H (.str z) "tuple" ∧ NotTy K H (.str z) "dict" :=
  ⟨⟨_, ty_str z, by decide +kernel⟩, ⟨_, ty_str z, by decide +kernel⟩, ⟨_, ty_str z, by decide +kernel⟩⟩
theorem NotTy.same {H H1 : Hp} {v : V} {c : String} (s : Same H H1) (h : NotTy K H v c) : NotTy K H1 v c := by
  obtain ⟨t, ht, k⟩ := h
  refine ⟨t, ?_, k⟩
  cases ht with
  | base b => cases b with
    | non => exact .base .non
    | bl y => exact .base (.bl y)
    | int i => exact .base (.int i)
    | str y => exact .base (.str y)
    | flt y => exact .base (.flt y)
    | lst e => exact .base (.lst (s _ _ e))
    | frz e => exact .base (.frz (s _ _ e))
    | tup e => exact .base (.tup (s _ _ e))
    | dK e => exact .base (.dK (s _ _ e))
    | dT e => exact .base (.dT (s _ _ e))
  | byt b => exact .byt b
  | set e => exact .set (s _ _ e)
  | kList e c => exact .kList e c
  | kTuple e c => exact .kTuple e c
  | kDict e c => exact .kDict e c
  | fTuple e => exact .fTuple (s _ _ e)
  | fDict e => exact .fDict (s _ _ e)
theorem not_nt_str {H : Hp} {z : Str} (h : NotTy K H (.str z) "str") : False := by
  obtain ⟨t, ht, k⟩ := h
  generalize hv : V.str z = v at ht
  generalize hu : Value.type t = u at ht
  cases ht with
  | base b =>
    cases b with
    | str y =>
      cases hu
      exact absurd k (by decide +kernel)
    | _ => cases hv
  | _ => cases hv
end
def oddStrs : List Str := ["", "abcdefghi", "A", "aB", "a1", "a b", " a", "a_", "-"]
inductive Odd (a : Addr) (H : Hp) : V → Prop where
  | str {z : Str} (h : z ∈ oddStrs) : Odd a H (.str z)
  | non : Odd a H .non
  | int (i : Int) : Odd a H (.int i)
  | bl (b : Bool) : Odd a H (.bl b)
  | tup {p : Addr} {xs : List V} (n : p ≠ a) (h : H p = some (.tup xs)) (e : xs = [] ∨ xs = [.str "a"]) : Odd a H (.ref p)
  | lst {p : Addr} {xs : List V} (n : p ≠ a) (h : H p = some (.lst xs)) (e : xs = [] ∨ xs = [.str "a"]) : Odd a H (.ref p)
  | dic {p : Addr} (n : p ≠ a) (h : H p = some (.dK [(.inr "a", .str "b")])) : Odd a H (.ref p)
theorem Odd.keep {a : Addr} {H H' : Hp} {v : V} (k : Keep a H H') (h : Odd a H v) : Odd a H' v := by
  cases h with
  | str h => exact .str h
  | non => exact .non
  | int i => exact .int i
  | bl b => exact .bl b
  | tup n h e => exact .tup n (k _ _ n h) e
  | lst n h e => exact .lst n (k _ _ n h) e
  | dic n h => exact .dic n (k _ _ n h)
theorem odd_notword {K : PySem.W.Frag} {a : Addr} {H : Hp} {v : V} (h : Odd a H v) : (∃ z, v = .str z ∧ z.length ≤ 1000 ∧ ¬ IsWord z) ∨ NotTy K H v "str" := by
  cases h with
  | @str z h =>
    have e : ∀ z ∈ oddStrs, (decide (z.length ≤ 1000) && !isWordB z) = true := by decide +kernel
    have e2 := e z h
    simp only [Bool.and_eq_true, decide_eq_true_eq, Bool.not_eq_true'] at e2
    exact .inl ⟨z, rfl, e2.1, fun hw => by rw [isWordB_true hw] at e2; cases e2.2⟩
  | non => exact .inr ⟨_, ty_non, by decide +kernel⟩
  | int i => exact .inr ⟨_, ty_int i, by decide +kernel⟩
  | bl b => exact .inr ⟨_, ty_bl b, by decide +kernel⟩
  | tup n h e => exact .inr ⟨_, .base (.tup h), by decide +kernel⟩
  | lst n h e => exact .inr ⟨_, .base (.lst h), by decide +kernel⟩
  | dic n h => exact .inr ⟨_, .base (.dK h), by decide +kernel⟩
theorem same_new2 {H : Hp} {p : Addr} {o u : HO} (n : H p = none) : Same H (upd (upd H p o) p u) := fun b x h => by
  rw [upd_ne (ne_of_none h n), upd_ne (ne_of_none h n)]
  exact h
def spOdd : Sp := fun vs H Q _ => ∃ (a : Addr) (n : Nat), vs = [.ref a] ∧ Src H a n ∧ n ≤ 900000000 ∧ ∀ H' v, Keep a H H' → Src H' a (n + 1) → Odd a H' v → Q v H'
theorem Src.same {H H1 : Hp} {a : Addr} {n : Nat} (s : Same H H1) (h : Src H a n) : Src H1 a n := by
  obtain ⟨d, x, t, h1, h2⟩ := h
  exact ⟨d, x, t, s _ _ h1, h2⟩
section
variable {P : Program} {w : World} {K : PySem.W.Frag} {mg : Str → Option Value} {base : Heap}
end
theorem kb_of {K : PySem.W.Frag} {x qual : Str} {params : Arguments} {body : List Stmt} {scope : Scope} {kws : List (Str × V)} {f : Addr} {fd : FuncData} {ps : List Str} (F : FunD K x qual params body scope [] kws f fd)
    (h : ∀ (kV doc pm : Value) (an : Option Addr) (cdv ct : Value) (ws : List Value), ws.length = ps.length → bindArgs (PySem.W.fnOf x qual params body scope .none kV doc pm an cdv ct) ⟨[], ps.zip ws⟩ = pure (ps.zip ws)) : KBn K fd ps 0 ps (fun _ ws => ws) (fun _ zs => zs) := by
  obtain ⟨oc, od, dV, kV, doc, pm, an, cdv, ct, osl, rfl, lk, hcd, hD, hK⟩ := F.ex
  rcases hD with ⟨_, rfl⟩ | ⟨e, _⟩
  · exact ⟨fun s us ws _ l1 l2 => by
      obtain rfl : us = [] := List.length_eq_zero_iff.mp l1
      exact .of_eq (h kV doc pm an cdv ct ws l2), fun _ r => r⟩
  · exact absurd rfl e
end Lw
namespace Hk
open PySem PySem.Spec PyProof.Rows L2
/-! a Hook: facts, defs, tables, one Bool more -/
abbrev Al : Type := He.AlT × Bool
def obG (n : Nat) (fa : List He.Fa) (fn : List He.DefD) (ts : List He.Tab) (own : PySem.W.Frag → Bool) (g : Addr → Option Obj) : Al := (He.obsTG n fa fn ts g, own (He.frG g (He.asD g n)))
def Says (fa : List He.Fa) (fn : List He.DefD) (ts : List He.Tab) (own : PySem.W.Frag → Bool) (w : World) (K : PySem.W.Frag) : Prop := He.SaysT fa fn ts w K ∧ own K = true
def hook (n : Nat) (fa : List He.Fa) (fn : List He.DefD) (ts : List He.Tab) (own : PySem.W.Frag → Bool) : PySem.W.Hook where
  α := Al
  obs := fun s => obG n fa fn ts own s.heap.get?
  val := fun w => (He.valT fn ts w, true)
  says := fun w h => ∃ K : PySem.W.Frag, K.In h ∧ Says fa fn ts own w K
  of := fun _ _ e => ⟨_, He.frG_in, congrArg Prod.fst e, congrArg Prod.snd e⟩
  keeps := fun _ _ _ ⟨K, hK, c⟩ k => ⟨K, PySem.W.Frag.In.keeps hK k, c⟩
theorem obG_eq {n : Nat} {fa : List He.Fa} {fn : List He.DefD} {ts : List He.Tab} {own : PySem.W.Frag → Bool} {g : Addr → Option Obj} {s : Shared} (h : ∀ a, g a = s.heap.get? a) : obG n fa fn ts own g = (hook n fa fn ts own).obs s := by
  rw [show g = s.heap.get? from funext h] <;> rfl
/-- an own error class over ValueError with an own __init__ -/
def oexB (K : PySem.W.Frag) (C : Addr) : Bool := match K.lookup C with
  | some ⟨.type t, _, .cls ⟨_, _, .ref c :: bm, _, _, true, _, _, _, _, false⟩, sl⟩ => (decide (t = "type") && (decide (c = C) && PySem.HandSPX.refsVE bm)) && (match sl.toList with
    | [_, _, _, _, some (.builtin z), _] => decide (z = "ValueError.__new__")
    | _ => false)
  | _ => false
def clsB (K : PySem.W.Frag) (C : Addr) : Bool := oexB K C && (He.eqO (PySem.W.findIn K (.ref C) "__setattr__") (some (some (.builtin "object.__setattr__"))) && (decide (PySem.W.subIn K (.ref C) (.type "BaseException") = some true) &&
  (decide (PySem.W.typeIn K (.ref C) = some (.type "type")) && PySem.W.keepIn K (.ref C))))
theorem oexB_ok {K : PySem.W.Frag} {C : Addr} (h : clsB K C = true) : OexC K C := by
  obtain ⟨h1, h⟩ := He.ba h
  obtain ⟨h2, h⟩ := He.ba h
  obtain ⟨h3, h⟩ := He.ba h
  obtain ⟨h4, h5⟩ := He.ba h
  refine ⟨?_, He.eqO_ok h2, of_decide_eq_true h3, of_decide_eq_true h4, h5⟩
  unfold oexB at h1
  split at h1
  · rename_i t dd nm bs c bm N qn sn sub ab col sl e
    obtain ⟨q1, q2⟩ := He.ba h1
    obtain ⟨q3, q4⟩ := He.ba q1
    obtain ⟨q5, q6⟩ := He.ba q4
    have e1 := of_decide_eq_true q3
    have e2 := of_decide_eq_true q5
    subst e1 e2
    split at q2
    · rename_i k0 k1 k2 k3 z k5 es
      have e3 := of_decide_eq_true q2
      subst e3
      obtain ⟨sl⟩ := sl
      simp only at es
      subst es
      exact ⟨nm, qn, N, bs, bm, sn, sub, ab, col, dd, k0, k1, k2, k3, k5, e, q6⟩
    · cases q2
  · cases h1
/-- isinstance asks its instances rightly -/
def excB (K : PySem.W.Frag) (D : Addr) : Bool := L2.xfB K D && (He.eqO (PySem.W.findIn K (.ref D) "__class__") (some (some (.builtin "object.__class__"))) && (decide (PySem.W.mroIn K D (.type "object") = some true) && getB K))
where getB (K : PySem.W.Frag) : Bool := decide (PySem.W.specialIn K (.builtin "object.__class__") "__get__" = some (some (.builtin "getset_descriptor.__get__"))) && decide (PySem.W.takesIn K (.builtin "object.__class__") = some true)
theorem excB_ok {K : PySem.W.Frag} {D : Addr} (h : excB K D = true) : ExcC K D ∧ XfC K D := by
  obtain ⟨h1, h⟩ := He.ba h
  obtain ⟨h2, h⟩ := He.ba h
  obtain ⟨h3, h⟩ := He.ba h
  obtain ⟨h4, h5⟩ := He.ba h
  have x := L2.xfB_ok h1
  exact ⟨⟨x.ga, x.gg, x.exC, x.hdC, He.eqO_ok h2, of_decide_eq_true h4, of_decide_eq_true h5, of_decide_eq_true h3⟩, x⟩
/-- isinstance of an own class's instances -/
def insB (K : PySem.W.Frag) (D : Addr) : Bool := He.eqO (PySem.W.findIn K (.ref D) "__class__") (some (some (.builtin "object.__class__"))) && (decide (PySem.W.mroIn K D (.type "object") = some true) && excB.getB K)
end Hk

set_option Elab.async false
set_option linter.all false
set_option maxRecDepth 100000
set_option maxHeartbeats 4000000
namespace Lw
open PySem PySem.Spec PyProof.Rows L2
/-! an own error with an own __init__, made: its context is None -/
section
variable {X : Cx} {CX : CXT} {x : Str} {e : Expr} {es : List Expr} {ta : TA} {p pos : Pos} {C fI : Addr} {k : Nat} {fd : FuncData} {ps : List Str} {sp : Sp} {ds : List Value} {dvs : List V}
theorem pmk_oexN (T : OexC X.K C) (iC : PySem.W.findIn X.K (.ref C) "__init__" = some (some (.ref fI))) (tI : PySem.W.typeIn X.K (.ref fI) = some (.type "function")) (F1 : FnOk X.prog X.w X.K X.mg X.base CX k fI fd ps sp) (hr : Room (k + 1) X.A) (hb : Binds X.K fd ps ds)
    (hd : Vals dvs ds) (hx : Passes CX X (fun _ _ _ => False)) (hm : X.mg x = some (.ref C)) (ha : PA X (e :: es) ta) (hg : Gl X x := by rfl) (hdb : (x == ("__debug__" : Str)) = false := by decide) (he : starEach (e :: es) X.env = (false, eval e X.env) :: starEach es X.env := by rfl)
    (hpl : (backTo pos (starEach es X.env)).any (·.1) = false := by rfl) : L2N.PMk X (.Call (.Name x p) (e :: es) [] pos) (tMkO C sp dvs ta) := fun pins s σ H Q I h => by
  obtain ⟨nm, qn, N, bs, bm, sn, sub, ab, col, dd, k0, k1, k2, k3, k5, hC, hbm⟩ := T.cls
  refine wpAny_Call_Name_kw (ld_glob I hg hm (PySem.W.callWith_K (h₀ := X.base) I.ok.mod.kin T.kC (thn (ha.run pos pins s σ H _ I h) fun us st ⟨vs, H1, J, rv, hz, q1⟩ => ⟨J.kIn, ?_⟩) he hpl) hdb)
  show wpAny _ _ (call (.ref C) us) _ _ _
  obtain ⟨hp, g, dr, tk, os⟩ := st
  have up : hp.objs.size ≤ hp.objs.size + 1 := by omega
  have spec := q1 (hp.objs.size + 1) (J.hok.fresh up)
  have stay : ∀ b o, hp.get? b = some o → ((hp.push (PySem.W.kdv_tup us)).push (PySem.HandSPX.excO C hp.objs.size)).get? b = some o := fun b o z => Heap.get?_push_of_some _ (Heap.get?_push_of_some _ z)
  have there : ((hp.push (PySem.W.kdv_tup us)).push (PySem.HandSPX.excO C hp.objs.size)).get? (hp.objs.size + 1) = some (PySem.HandSPX.excO C hp.objs.size) := by heap_get
  have J2 := J.laid (t' := tk) (a := hp.objs.size + 1) (o := exo (hp.objs.size + 1) C none) (h' := (hp.push (PySem.W.kdv_tup us)).push (PySem.HandSPX.excO C hp.objs.size)) stay up (exo_ok there)
  have rel : Vals (V.ref (hp.objs.size + 1) :: (vs ++ dvs)) (Value.ref (hp.objs.size + 1) :: (us ++ ds)) := .cons rfl (rv.append hd)
  have len : (Value.ref (hp.objs.size + 1) :: us ++ ds).length = ps.length := (F1.len _ _ _ _ spec ▸ rel.length).symm
  have line : us.length ≤ sizeLine := by rw [← Paired.length rv, sizeLine_eq]; omega
  refine wpAny_call (PySem.HandSPX.call_own F.excBase_ValueError (fun Y => PySem.HandSPX.refsVE_contains Y bm hbm) (J.kIn _ _ hC) (PySem.W.looks_findIn J.kIn iC) (fun self => PySem.W.bind_fn J.kIn self tI) line
    (codeAny_mono (F1.run _ X.stack _ _ ⟨Value.ref (hp.objs.size + 1) :: us, []⟩ (Value.ref (hp.objs.size + 1) :: (us ++ ds)) _ _ (fun _ _ _ => False) (hr.make C us []) (J2.env0.make C us []) (hb _ (Value.ref (hp.objs.size + 1) :: us) J2.kIn len) rel spec) fun r s' back => ?_))
  match r, back with
  | .error er, back => exact hx pins σ _ _ er s' J2 back
  | .ok .next, back => exact back.elim
  | .ok .brk, back => exact back.elim
  | .ok .cont, back => exact back.elim
  | .ok (.ret u), back =>
    obtain ⟨v, H2, os2, bare2, un2, hok2, rv2, ev, d, fs, ea, ed, hd1, q2⟩ := back
    subst ev
    obtain ⟨h2, g2, d2, t2, os'⟩ := s'
    obtain ⟨t0, G, JG, kG, ge, hoe, na⟩ := mk_end0 (d2 := d2) (t2 := t2) J up stay un2 hok2 os2 bare2 ea ed hd1
    exact ⟨rv2, _, _, _, ⟨G, g2, d2, t2, os'⟩, _, .ref C, some d, rfl, JG, kG, ge, hoe, ⟨rfl, rfl, fun z ez => by cases ez; rfl⟩, rfl, rfl, na, rfl, bare2, raises_own T.exC T.tyC, q2⟩
/-! C(e, ..), C what a local name holds -/
def tMakeL (i : Nat) (C : Addr) (sp : Sp) (E : XK) (t : TA) : TE := fun σ H Q => σ[i]? = some (some (.ref C)) ∧ tMake C sp [] E t σ H Q
theorem pe_makeL {E : XK} {t : TA} {i f : Nat} (M : Mk X.K C f) (F : FnOk X.prog X.w X.K X.mg X.base CX k f fd ps sp) (hr : Room (k + 1) X.A) (hN : X.N[i]? = some x) (hv : Vis X.env.scope x) (hb : Binds X.K fd ps []) (hx : Passes CX X E) (ha : PA X (e :: es) t)
    (hdb : (x == ("__debug__" : Str)) = false := by decide) (hcd : (x == ("__classdict__" : Str)) = false := by decide) (he : starEach (e :: es) X.env = (false, eval e X.env) :: starEach es X.env := by rfl) (hpl : (backTo pos (starEach es X.env)).any (·.1) = false := by rfl) :
    PE X (.Call (.Name x p) (e :: es) [] pos) (tMakeL i C sp E t) := ⟨fun pins s σ H Q I ⟨hs, ht⟩ => by
  refine wpAny_Call_Name_kw (thn ((pe_var (pos := p) hN hv hdb hcd).run pins s σ H (fun v H1 => v = .ref C ∧ H1 = H) I ⟨.ref C, hs, rfl, rfl⟩) fun u s1 ⟨v, H1, J, r1, e1, e2⟩ => ?_)
  subst e1 e2
  obtain rfl : u = Value.ref C := r1
  exact PySem.W.callWith_K (h₀ := X.base) J.ok.mod.kin M.kp (thn (ha.run pos pins s1 σ H1 _ J ht) fun us s2 ⟨vs, H2, J2, r, q⟩ => ⟨J2.kIn, run_make M F hr hb .nil hx J2 r q⟩) he hpl⟩
/-! what a try's body lets out, whatever its slots are -/
def WL (X : Cx) (W : WX) : XK := fun cls d H => ∀ σ : L2.St, σ.length = X.N.length → W cls d σ H
theorem passL {W : WX} (tk : L2N.Takes X W) : Passes (L2N.CX X.prog X.w) X (WL X W) := fun pins σ H s u s' I c => by
  obtain ⟨a, B, H', cls, d, hu, fl, hok, ub, na, os, ag, hE⟩ := c
  exact tk u s' (L2N.XE.of_call (W := W) (E := fun c d H => W c d σ H) I (fun _ _ _ z => z) ⟨a, B, H', cls, d, hu, fl, hok, ub, na, os, ag, hE σ I.len⟩)
end
/-! a def called while an error is handled -/
theorem okH {CX : CXT} {P : Program} {w : World} {K : PySem.W.Frag} {mg : Str → Option Value} {base : Heap} {k : Nat} {x qual : Str} {params : Arguments} {bd : List Stmt} {scope : Scope} {dvs : List V} {kws : List (Str × V)} {f : Addr} {fd : FuncData} {N ps : List Str} {sp : Sp}
    (F : FunD K x qual params bd scope dvs kws f fd) (S : FnScope N ps scope) (len : ∀ vs H Q E, sp vs H Q E → vs.length = ps.length)
    (hb : ∀ (cdv : Value) (A : Around) (outer : List Env) (s : Shared) (H : Hp) (vs : List V) (Q : VK) (E : XK) (p : Addr × Obj), L2H.Hot1 A p → L2H.RoomH k (A.deeper (envOfC qual scope s.heap.objs.size f cdv)) → sp vs H Q E →
      ∃ t, PSs (L2H.cxH CX P w K mg base N qual scope f cdv A outer s H E p) bd t ∧ t { nx := fun _ H' => Q .non H', rt := Q } (start N vs) H) : L2H.FnH P w K mg base CX (k + 1) f fd ps sp := by
  obtain ⟨oc, od, dV, kV, doc, pm, an, cdv, ct, osl, rfl, lk, hcd, _, _⟩ := F.ex
  exact L2H.fn_ofH lk hcd S len fun A outer s H vs Q E p h1 h2 h3 => hb cdv A outer s H vs Q E p h1 h2 h3
end Lw

set_option Elab.async false
set_option linter.all false
set_option maxRecDepth 100000
set_option maxHeartbeats 4000000
namespace Lw
open PySem PySem.Spec PyProof.Rows L2
/-! the draws of the later laws: also out of very many -/
def spDrawW : Sp := fun vs H Q _ => ∃ (a : Addr) (n : Nat) (m : Int), vs = [.ref a, .int m] ∧ Src H a n ∧ n ≤ 1000000000 ∧ 0 < m ∧ m.natAbs < 2 ^ 200 ∧
  ∀ H' i, Keep a H H' → Src H' a (n + 1) → 0 ≤ i → i < m → Q (.int i) H'
theorem small_m {m : Int} (h : -1000000000000000000000 < m ∧ m < 1000000000000000000000) : m.natAbs < 2 ^ 200 := by omega
/-! a tuple that the module holds -/
def tupB (K : PySem.W.Frag) (a : Addr) (xs : List V) : Bool := match K.lookup a with
  | some ⟨.type t, _, .seq its _, _⟩ => decide (t = "tuple") && (decide (its.size ≤ 1000) && decide (its.toList.map absV = xs.map some))
  | _ => false
theorem rel_of_abs {x : V} {u : Value} (h : absV u = some x) : RelV x u := by
  unfold absV at h
  split at h <;> first | cases h | skip
  all_goals first | rfl | exact ⟨_, rfl⟩
theorem vals_of_abs : ∀ {us : List Value} {xs : List V}, us.map absV = xs.map some → Vals xs us
  | [], [], _ => .nil
  | u :: us, x :: xs, h => by
    simp only [List.map_cons, List.cons.injEq] at h
    exact .cons (rel_of_abs h.1) (vals_of_abs h.2)
  | [], _ :: _, h => by cases h
  | _ :: _, [], h => by cases h
theorem tupB_ok {K : PySem.W.Frag} {a : Addr} {xs : List V} {H : Hp} (h : tupB K a xs = true) : SqT K H a xs := by
  unfold tupB at h
  split at h
  · rename_i t d its n sl e
    obtain ⟨h1, h2⟩ := He.ba h
    obtain ⟨h3, h4⟩ := He.ba h2
    have e1 := of_decide_eq_true h1
    have e2 := of_decide_eq_true h3
    have hs : sizeLine = 16777216 := by decide
    subst e1
    exact .inr ⟨_, its, n, e, rfl, rfl, by omega, vals_of_abs (of_decide_eq_true h4)⟩
  · cases h
end Lw
namespace Lw
open PySem PySem.Spec PyProof.Rows L2
theorem it_bf {b : Bool} {A B : Prop} (h : b = false) (x : B) : if b = true then A else B := by
  rw [h, if_neg Bool.false_ne_true]; exact x
theorem it_bt {b : Bool} {A B : Prop} (h : b = true) (x : A) : if b = true then A else B := by
  rw [h, if_pos rfl]; exact x
theorem str_mem {z : Str} {ts : List Str} {A B : Prop} (h1 : z ∈ ts → A) (h2 : z ∉ ts → B) : if inV (.str z) (ts.map V.str) = true then A else B := by
  rw [inV_str]
  by_cases h : z ∈ ts
  · rw [decide_eq_true h, if_pos rfl]; exact h1 h
  · rw [decide_eq_false h, if_neg Bool.false_ne_true]; exact h2 h
theorem kb_rel {K : PySem.W.Frag} {x qual : Str} {params : Arguments} {body : List Stmt} {scope : Scope} {kws : List (Str × V)} {f : Addr} {fd : FuncData} {ps ks : List Str} {g : List Value → List Value} {gV : List V → List V} (F : FunD K x qual params body scope [] kws f fd) (hr : ∀ {zs us}, Vals zs us → Vals (gV zs) (g us))
    (h : ∀ (kV doc pm : Value) (an : Option Addr) (cdv ct : Value) (ws : List Value), ws.length = ks.length → bindArgs (PySem.W.fnOf x qual params body scope .none kV doc pm an cdv ct) ⟨[], ks.zip ws⟩ = pure (ps.zip (g ws))) : KBn K fd ps 0 ks (fun _ ws => g ws) (fun _ zs => gV zs) := by
  obtain ⟨oc, od, dV, kV, doc, pm, an, cdv, ct, osl, rfl, lk, hcd, hD, hK⟩ := F.ex
  rcases hD with ⟨_, rfl⟩ | ⟨e, _⟩
  · exact ⟨fun s us ws _ l1 l2 => by
      obtain rfl : us = [] := List.length_eq_zero_iff.mp l1
      exact .of_eq (h kV doc pm an cdv ct ws l2), fun _ r => hr r⟩
  · exact absurd rfl e
theorem pass0S {X : Cx} : ∀ σ : L2.St, PassesAt CX0 X σ ((fun _ => E0 : L2.St → XK) σ) := fun _ _ _ _ _ _ _ h => h.elim
theorem same_at {H G : Hp} {D : Addr} {o : HO} (n : H D = none) (s : Same H G) : Same H (upd G D o) := fun b u h => by
  rw [upd_ne (ne_of_none h n)]
  exact s b u h
theorem g_name {i : Nat} {v : V} {σ : L2.St} {H : Hp} {Q : L2.St → Hp → Prop} (h : Q (σ.set i (some v)) H) : gName i v σ H Q := h
theorem vals_rev : ∀ {vs : List V} {us : List Value}, Vals vs us → Vals vs.reverse us.reverse
  | _, _, .nil => .nil
  | _, _, .cons h r => by
    rw [List.reverse_cons, List.reverse_cons]
    exact Vals.append (vals_rev r) (.cons h .nil)
end Lw
namespace Lw
open PySem PySem.Spec PyProof.Rows L2
theorem cutV_ints (ns : List Int) (lo hi : Option Int) : ∃ ms : List Int, cutV (ns.map V.int) lo hi = ms.map V.int ∧ ms.length ≤ ns.length := by
  unfold cutV
  refine ⟨(ns.drop (HT.sIx (ns.map V.int).length 0 lo)).take (HT.sIx (ns.map V.int).length (ns.map V.int).length hi - HT.sIx (ns.map V.int).length 0 lo), ?_, ?_⟩
  · rw [List.map_take, List.map_drop]
  · rw [List.length_take, List.length_drop]; omega
theorem none_of_same {H G : Hp} (s : Same H G) {q : Addr} (h : G q = none) : H q = none := by
  cases e : H q with
  | none => rfl
  | some o => rw [s _ _ e] at h; cases h
theorem keep_at {a : Addr} {H G : Hp} {D : Addr} {o : HO} (n : H D = none) (s : Keep a H G) : Keep a H (upd G D o) := fun b u nb h => by
  rw [upd_ne (ne_of_none h n)]
  exact s b u nb h
/-! words, several and different -/
def cand1 (w : Str) (c : Nat) : Str := sign c ++ cutS w (some 1) none
def WInv (z : Str) (ts : List Str) (j : Nat) (y : Str) : Prop := IsWord y ∧ IsWord z ∧ y.cps.toList.drop 1 = z.cps.toList.drop 1 ∧ (y ∉ ts ∨ ∀ i c, i + 1 < j → abc[i]? = some c → cand1 z c ∈ ts) ∧ (y ∉ ts ∨ j = 0 ∨ ∃ c, abc[j - 1]? = some c ∧ y = cand1 z c)
theorem cand1_tl (w : Str) (c : Nat) : (cand1 w c).cps.toList = c :: w.cps.toList.drop 1 := by
  unfold cand1
  rw [tl_app, tl_sign]
  unfold cutS
  have h1 : HT.sIx w.length 0 (some 1) = min 1 w.length := HT.sIx_nat _ _ 1
  have h2 : HT.sIx w.length w.length none = w.length := rfl
  rw [h1, h2]
  have h3 : w.length = w.cps.toList.length := len_tl w
  show [c] ++ (List.take (w.length - min 1 w.length) (List.drop (min 1 w.length) w.cps.toList)) = _
  rw [h3]
  show c :: _ = _
  congr 1
  cases w.cps.toList with
  | nil => rfl
  | cons x r =>
    have e : min 1 (x :: r).length = 1 := by simp only [List.length_cons]; omega
    rw [e]
    simp
theorem WInv.word {z y : Str} {ts : List Str} {j : Nat} (h : WInv z ts j y) : IsWord y := h.1
theorem WInv.zero {z : Str} {ts : List Str} (h : IsWord z) : WInv z ts 0 z := ⟨h, h, rfl, .inr fun i c hi => absurd hi (by omega), .inr (.inl rfl)⟩
theorem WInv.stay {z y : Str} {ts : List Str} {j : Nat} (h : WInv z ts j y) (n : y ∉ ts) : WInv z ts (j + 1) y := ⟨h.1, h.2.1, h.2.2.1, .inl n, .inl n⟩
theorem cand1_inj {w : Str} {c d : Nat} (h : cand1 w c = cand1 w d) : c = d := by
  have e : (cand1 w c).cps.toList = (cand1 w d).cps.toList := by rw [h]
  rw [cand1_tl, cand1_tl] at e
  exact (List.cons.inj e).1
theorem cand1_eq {z y : Str} (e : y.cps.toList.drop 1 = z.cps.toList.drop 1) (c : Nat) : cand1 y c = cand1 z c := by
  have h : (cand1 y c).cps.toList = (cand1 z c).cps.toList := by rw [cand1_tl, cand1_tl, e]
  have h2 : (cand1 y c).cps = (cand1 z c).cps := Array.toList_inj.mp h
  cases h3 : cand1 y c
  cases h4 : cand1 z c
  rw [h3, h4] at h2
  cases h2
  rfl
theorem WInv.step {z y : Str} {ts : List Str} {j c : Nat} (h : WInv z ts j y) (hin : y ∈ ts) (hc : abc[j]? = some c) : WInv z ts (j + 1) (cand1 y c) := by
  obtain ⟨h1, h2, h3, h4, h5⟩ := h
  have t := cand1_tl y c
  refine ⟨?_, h2, by rw [t]; exact h3, .inr fun i d hi hd => ?_, .inr (.inr ⟨c, by simpa using hc, cand1_eq h3 c⟩)⟩
  · obtain ⟨w1, w2, w3⟩ := h1
    rw [len_tl] at w1 w2
    refine ⟨by rw [len_tl, t]; simp, ?_, fun x hx => ?_⟩
    · rw [len_tl, t, List.length_cons, List.length_drop]; omega
    · rw [t] at hx
      rcases List.mem_cons.mp hx with e | e
      · rw [e]; exact abc_le (List.mem_of_getElem? hc)
      · exact w3 x (List.mem_of_mem_drop e)
  · rcases Nat.lt_or_ge (i + 1) j with l | l
    · rcases h4 with h4 | h4
      · exact absurd hin h4
      · exact h4 i d l hd
    · have e : i = j - 1 := by omega
      rcases h5 with h5 | h5 | ⟨d2, e1, e2⟩
      · exact absurd hin h5
      · omega
      · rw [e] at hd
        rw [e1] at hd
        cases hd
        rw [← e2]
        exact hin
theorem WInv.done {z y : Str} {ts : List Str} (h : WInv z ts 26 y) (l : ts.length ≤ 24) : y ∉ ts := by
  obtain ⟨_, _, _, h4, _⟩ := h
  rcases h4 with h4 | h4
  · exact h4
  exfalso
  have hm : ∀ x ∈ (abc.take 25).map (cand1 z), x ∈ ts := fun x hx => by
    obtain ⟨c, hc, rfl⟩ := List.mem_map.mp hx
    obtain ⟨i, hi, e⟩ := List.mem_take_iff_getElem.mp hc
    refine h4 i c (by omega) ?_
    rw [← e]
    exact List.getElem?_eq_getElem _
  have nd : ((abc.take 25).map (cand1 z)).Nodup := by
    have h0 : (abc.take 25).Nodup := by decide
    exact List.Pairwise.map _ (fun a b ne q => ne (cand1_inj q)) h0
  have := nodup_le nd hm
  rw [List.length_map] at this
  have : (abc.take 25).length = 25 := rfl
  omega
def spWord2 (K : PySem.W.Frag) : Sp := fun vs H Q _ => ∃ (a b : Addr) (n : Nat) (ts : List Str), vs = [.ref a, .ref b] ∧ Src H a n ∧ n ≤ 900000000 ∧ b ≠ a ∧ SqL K H b (ts.map V.str) ∧ ts.length ≤ 24 ∧
  ∀ H' w, Keep a H H' → Src H' a (n + 10) → IsWord w → w ∉ ts → Q (.str w) H'
def GoodWs (ws ts : List Str) : Prop := ws.Nodup ∧ ∀ z ∈ ws, IsWord z ∧ z ∉ ts
theorem GoodWs.nil {ts : List Str} : GoodWs [] ts := ⟨List.nodup_nil, fun _ h => (List.not_mem_nil h).elim⟩
theorem GoodWs.snoc {ws ts : List Str} {z : Str} (h : GoodWs ws ts) (hz : IsWord z) (n : z ∉ ts ++ ws) : GoodWs (ws ++ [z]) ts := by
  have n1 : z ∉ ts := fun m => n (List.mem_append_left _ m)
  have n2 : z ∉ ws := fun m => n (List.mem_append_right _ m)
  refine ⟨List.nodup_append.mpr ⟨h.1, by simp, fun x hx y hy => ?_⟩, fun x hx => ?_⟩
  · rw [List.mem_singleton.mp hy]
    exact fun e => n2 (e ▸ hx)
  · rcases List.mem_append.mp hx with m | m
    · exact h.2 x m
    · rw [List.mem_singleton.mp m]; exact ⟨hz, n1⟩
def spWords (K : PySem.W.Frag) : Sp := fun vs H Q _ => ∃ (a b : Addr) (n : Nat) (m : Int) (ts : List Str), vs = [.ref a, .int m, .ref b] ∧ Src H a n ∧ n ≤ 800000000 ∧ b ≠ a ∧ H b = some (.lst (ts.map V.str)) ∧ ts.length ≤ 10 ∧ (0 ≤ m ∧ m ≤ 8) ∧
  ∀ l H' ws, H l = none → Keep a H H' → Src H' a (n + 80) → H' l = some (.lst (ws.map V.str)) → ws.length = m.toNat → GoodWs ws ts → Q (.ref l) H'
def spNumL : Sp := fun vs H Q _ => ∃ (a : Addr) (n : Nat) (m : Int), vs = [.ref a, .int m] ∧ Src H a n ∧ n ≤ 900000000 ∧ 0 < m ∧ m.natAbs < 2 ^ 198 ∧
  ∀ H' i, Keep a H H' → Src H' a (n + 2) → Q (.int i) H'
structure TxtQ (mg : Str → Option Value) : Prop where
  isi : mg "isinstance" = none
  int : mg "int" = none
  bool : mg "bool" = none
  list : mg "list" = none
  dict : mg "dict" = none
end Lw

set_option Elab.async false
set_option linter.all false
set_option maxRecDepth 100000
set_option maxHeartbeats 4000000
namespace Lk
open PySem PySem.Spec PyProof.Rows L2
/-! list(d.keys()) -/
def tListKeys (te : TE) : TE := fun σ H Q => te σ H fun x H1 => ∃ (d : Addr) (kvs : List (Key × V)), x = .ref d ∧ H1 d = some (.dK kvs) ∧ ∀ p, H1 p = none → Q (.ref p) (upd H1 p (.lst (kvs.map fun kv => kV kv.1)))
section
variable {X : Cx} {e : Expr} {te : TE} {p apos cpos pos : Pos}
theorem pe_listKeys (hc : X.calm = true) (he : PE X e te) (hg : Gl X "list") (hm : X.mg "list" = none) (hv : bootBuiltins "list" = some (.type "list")) (hbase : attributeBase e "keys" X.env (eval e X.env) = eval e X.env := by rfl) (hline : (apos.endLine == cpos.line) = true := by rfl)
    (hs : starEach [.Call (.Attribute e "keys" apos) [] [] cpos] X.env = (false, eval (.Call (.Attribute e "keys" apos) [] [] cpos) X.env) :: starEach [] X.env := by rfl) :
    PE X (.Call (.Name "list" p) [.Call (.Attribute e "keys" apos) [] [] cpos] [] pos) (tListKeys te) := by
  refine ⟨fun pins s σ H Q I hq => ?_⟩
  refine wpAny_Call_Name_kw (ld_blt I hg hm hv ?_)
  refine PyProof.Rows.callWith_type1 ?_ hs rfl
  rw [hs]
  show wpAny _ _ (spliced ((false, eval (.Call (.Attribute e "keys" apos) [] [] cpos) X.env) :: backTo pos (starEach [] X.env))) _ _ s
  refine Calls.spliced_cons ?_
  refine wpAny_Call_method (T := "dict") (id := "dict.keys") hbase rfl hline F.plainAttrs_dict F.slot_dict_keys F.type_dict_keys (thn (he.run pins s σ H _ I hq) fun u s1 ⟨x, H1, I1, rx, d, kvs, ex, hd, q⟩ => ?_)
  subst ex
  obtain rfl : u = Value.ref d := rx
  obtain ⟨hz, hs0, vs, kv, hdo⟩ := I1.hok d _ hd
  obtain ⟨ep, hat⟩ := hdo.dictAt
  have lk : kvs.length = vs.length := Paired.length kv
  have I2 : Inv X pins σ H1 { s1 with heap := s1.heap.push { cls := .type "dict_keys", data := .fields #[.ref d] } } := I1.kept (t' := s1.toks) fun b ob q => Heap.get?_push_of_some _ q
  have ek : (kvs.map fun kv => kV kv.1) = vs.map fun p => kV p.1 := by
    have e := congrArg (List.map kV) kv.keys
    rw [List.map_map, List.map_map] at e
    exact e
  refine ⟨hdo.typeIs, hdo.mapOf.noDict, ?_⟩
  show wpAny _ _ (callWith cpos (.builtin "dict.keys") [.ref d] [] []) _ X.xe s1
  refine method_meetsIn F.slot_dict_keys F.entry_dict_keys rfl (PySem.evalArgs_none ⟨rfl, hdo.typeIs, F.args_dict_keys_1 _, _, PySem.W.kdl_meets_keys (mixKind X.prog X.w) d hs0, ⟨vs, hdo⟩, ?_⟩)
  refine Calls.spliced_nil ?_
  refine PySem.W.kdl_call (PySem.W.kdl_keys (knd := mixKind X.prog X.w) (kvs := vs) (ep := ep)) (I1.ok.hd hc) ⟨⟨_, Heap.get?_push_size _ rfl, rfl, rfl⟩, hat.push _⟩ (by rw [← lk]; exact hz) fun h' tk acc c' hk hD hacc => ?_
  have hv2 : Vals (vs.map fun p => kV p.1) acc.toList := keys_at (by rw [Array.length_toList]; exact hacc.1) fun j v e => hacc.2 j v (by rw [← Array.getElem?_toList]; exact e)
  refine ⟨.ref _, upd H1 _ (.lst (kvs.map fun kv => kV kv.1)), I2.laid (t' := tk) hk (Nat.le_refl _)
    (show ObjOk X.prog X.w _ _ _ (.lst (kvs.map fun kv => kV kv.1)) from ⟨by rw [List.length_map]; exact hz, acc.toList, c', by rw [ek]; exact hv2, by rw [Array.toArray_toList]; exact hD⟩), rfl, q _ (I2.hok.fresh (Nat.le_refl _))⟩
end
end Lk
namespace Lw
open PySem PySem.Spec PyProof.Rows L2
/-! one order of texts only -/
theorem rising_all : ∀ (r : List Str) (p : Str), risingS p r = true → (∀ y ∈ r, p.cps.toList ≤ y.cps.toList) ∧ sortedS r = true
  | [], _, _ => ⟨fun _ h => (List.not_mem_nil h).elim, rfl⟩
  | x :: r, p, h => by
    unfold risingS at h
    rw [Bool.and_eq_true, Bool.not_eq_true', ltCps_eq] at h
    have h1 : ¬ x.cps.toList < p.cps.toList := of_decide_eq_false h.1
    have h2 : p.cps.toList ≤ x.cps.toList := List.not_lt.mp h1
    refine ⟨fun y hy => ?_, h.2⟩
    rcases List.mem_cons.mp hy with rfl | hy
    · exact h2
    · exact List.le_trans h2 ((rising_all r x h.2).1 y hy)
theorem str_ext {a b : Str} (h : a.cps.toList = b.cps.toList) : a = b := by
  have := Array.toList_inj.mp h
  cases a
  cases b
  cases this
  rfl
theorem sorted_one : ∀ {xs ys : List Str}, sortedS xs = true → sortedS ys = true → xs.Perm ys → xs = ys
  | [], ys, _, _, p => by rw [List.nil_perm.mp p]
  | x :: xs, [], _, _, p => by cases List.perm_nil.mp p
  | x :: xs, y :: ys, hx, hy, p => by
    obtain ⟨a1, a2⟩ := rising_all xs x hx
    obtain ⟨b1, b2⟩ := rising_all ys y hy
    have e : x = y := by
      rcases List.mem_cons.mp (p.mem_iff.mp List.mem_cons_self) with e | e
      · exact e
      rcases List.mem_cons.mp (p.mem_iff.mpr (List.mem_cons_self (a := y))) with e2 | e2
      · exact e2.symm
      exact str_ext (List.le_antisymm (a1 y e2) (b1 x e))
    subst e
    rw [sorted_one a2 b2 (List.Perm.cons_inv p)]
end Lw

set_option Elab.async false
set_option linter.all false
set_option maxRecDepth 100000
set_option maxHeartbeats 0
namespace Hc
open PySem PySem.Spec PyProof.Rows L2
/-! a Hook: facts, defs wherever they stand, one Bool more -/
abbrev Al : Type := He.AlD × Bool
def obG (n : Nat) (fa : List He.Fa) (fn : List He5.DefA) (own : PySem.W.Frag → Bool) (g : Addr → Option Obj) : Al := (He5.obsAG n fa fn g, own (He.frG g (He5.asA g n)))
def Says (fa : List He.Fa) (fn : List He5.DefA) (own : PySem.W.Frag → Bool) (K : PySem.W.Frag) : Prop := He5.SaysA fa fn K ∧ own K = true
def hook (n : Nat) (fa : List He.Fa) (fn : List He5.DefA) (own : PySem.W.Frag → Bool) : PySem.W.Hook where
  α := Al
  obs := fun s => obG n fa fn own s.heap.get?
  val := fun _ => (He5.valA fn, true)
  says := fun _ h => ∃ K : PySem.W.Frag, K.In h ∧ Says fa fn own K
  of := fun _ _ e => ⟨_, He.frG_in, congrArg Prod.fst e, congrArg Prod.snd e⟩
  keeps := fun _ _ _ ⟨K, hK, c⟩ k => ⟨K, PySem.W.Frag.In.keeps hK k, c⟩
theorem obG_eq {n : Nat} {fa : List He.Fa} {fn : List He5.DefA} {own : PySem.W.Frag → Bool} {g : Addr → Option Obj} {s : Shared} (h : ∀ a, g a = s.heap.get? a) : obG n fa fn own g = (hook n fa fn own).obs s := by
  rw [show g = s.heap.get? from funext h] <;> rfl
theorem Says.fact {fa : List He.Fa} {fn : List He5.DefA} {own : PySem.W.Frag → Bool} {K : PySem.W.Frag} (c : Says fa fn own K) {f : He.Fa} (hf : f ∈ fa) : f.ok K = true := by
  obtain ⟨i, hi⟩ := List.getElem?_of_mem hf
  exact c.1.fact i hi
/-- a class's constants -/
def cvS (K : PySem.W.Frag) (C : Addr) (f z : Str) : Bool := match PySem.W.findCls K (.ref C) (.type "type") f with
  | some (.val (.str y _)) => decide (y = z)
  | _ => false
def cvI (K : PySem.W.Frag) (C : Addr) (f : Str) (i : Int) : Bool := match PySem.W.findCls K (.ref C) (.type "type") f with
  | some (.val (.int y _)) => decide (y = i)
  | _ => false
theorem cvS_ok {K : PySem.W.Frag} {C : Addr} {f z : Str} (h : cvS K C f z = true) : ∃ u, ClX.CVal K C (.type "type") f (.str z) u := by
  unfold cvS at h
  split at h
  · rename_i y t e
    exact ⟨_, e, t, by rw [of_decide_eq_true h]⟩
  · cases h
theorem cvI_ok {K : PySem.W.Frag} {C : Addr} {f : Str} {i : Int} (h : cvI K C f i = true) : ∃ u, ClX.CVal K C (.type "type") f (.int i) u := by
  unfold cvI at h
  split at h
  · rename_i y t e
    exact ⟨_, e, t, by rw [of_decide_eq_true h]⟩
  · cases h
def crB (K : PySem.W.Frag) (C : Addr) : Bool := PySem.W.readsIn K C (.type "type") && He.eqO (PySem.W.specialIn K (.ref C) "__getattribute__") (some (some (.builtin "type.__getattribute__")))
theorem crB_ok {K : PySem.W.Frag} {C : Addr} (h : crB K C = true) : ClX.CRead K C (.type "type") := ⟨(He.ba h).1, He.eqO_ok (He.ba h).2⟩
end Hc
namespace Lw
open PySem PySem.Spec PyProof.Rows L2
def dG (x : Str) (st : Stmt) : He5.DefA := ⟨fun K => He.ga K x, x, x, defArgs st, defBody st, defScope st, [], []⟩
def dM (C m q : Str) (st : Stmt) (kwd : List (Str × He.Dv) := []) : He5.DefA := ⟨fun K => He.ma K (He.ga K C) m, m, q, defArgs st, defBody st, defScope st, [], kwd⟩
end Lw

set_option Elab.async false
set_option linter.all false
set_option maxRecDepth 100000
set_option maxHeartbeats 4000000
namespace Lw
open PySem PySem.Spec PyProof.Rows L2
/-! an expression that may be read in two ways -/
theorem pe_or {X : Cx} {e : Expr} {t1 t2 : TE} (h1 : PE X e t1) (h2 : PE X e t2) : PE X e (fun σ H Q => t1 σ H Q ∨ t2 σ H Q) := ⟨fun pins s σ H Q I h => h.elim (h1.run pins s σ H Q I) (h2.run pins s σ H Q I)⟩
theorem kb1 {K : PySem.W.Frag} {x qual : Str} {params : Arguments} {body : List Stmt} {scope : Scope} {kws : List (Str × V)} {f : Addr} {fd : FuncData} {ps ks : List Str} {g : List Value → List Value} {gV : List V → List V} (F : FunD K x qual params body scope [] kws f fd) (hr : ∀ {zs us}, Vals zs us → Vals (gV zs) (g us))
    (h : ∀ (kV doc pm : Value) (an : Option Addr) (cdv ct : Value) (u : Value) (ws : List Value), ws.length = ks.length → bindArgs (PySem.W.fnOf x qual params body scope .none kV doc pm an cdv ct) ⟨[u], ks.zip ws⟩ = pure (ps.zip (u :: g ws))) : KBn K fd ps 1 ks (fun us ws => us ++ g ws) (fun vs zs => vs ++ gV zs) := by
  obtain ⟨oc, od, dV, kV, doc, pm, an, cdv, ct, osl, rfl, lk, hcd, hD, hK⟩ := F.ex
  rcases hD with ⟨_, rfl⟩ | ⟨e, _⟩
  · exact ⟨fun s us ws _ l1 l2 => by
      match us, l1 with
      | [u], _ => exact .of_eq (h kV doc pm an cdv ct u ws l2), fun r q => r.append (hr q)⟩
  · exact absurd rfl e
/-! properties of the text's classes -/
def propB (K : PySem.W.Frag) (C : Addr) (m : Str) : Bool := He.eqO (PySem.W.findIn K (.ref C) m) (some (some (.ref (He.ma K C m)))) && (He.eqO (PySem.W.specialIn K (.ref (He.ma K C m)) "__get__") (some (some (.builtin "property.__get__"))) &&
  (decide (PySem.W.takesIn K (.ref (He.ma K C m)) = some true) && (match PySem.W.recIn K (He.ma K C m) "property" with
    | some (.ref _ :: _) => true
    | _ => false)))
theorem propB_ok {K : PySem.W.Frag} {C : Addr} {m : Str} (h : propB K C m = true) : PropOf K C m (He.ma K C m) (He5.wf K C "property" m) := by
  obtain ⟨h1, h⟩ := He.ba h
  obtain ⟨h2, h⟩ := He.ba h
  obtain ⟨h3, h4⟩ := He.ba h
  refine ⟨He.eqO_ok h1, He.eqO_ok h2, of_decide_eq_true h3, ?_⟩
  unfold He5.wf
  split at h4
  · rename_i f r e
    rw [e]
    exact ⟨r, rfl⟩
  · cases h4
def conB (K : PySem.W.Frag) (C : Addr) (f z : Str) : Bool := match PySem.W.findIn K (.ref C) f with
  | some (some (.str y t)) => decide (y = z) && He.eqO (PySem.W.specialIn K (.str y t) "__get__") (some none)
  | _ => false
theorem conB_ok {K : PySem.W.Frag} {C : Addr} {f z : Str} (h : conB K C f z = true) (hc : PySem.W.copiedNames.contains f = false) : ∃ u, Con K C f (.str z) u := by
  unfold conB at h
  split at h
  · rename_i y t e
    obtain ⟨h1, h2⟩ := He.ba h
    have e1 := of_decide_eq_true h1
    subst e1
    exact ⟨_, e, ⟨_, rfl⟩, He.eqO_ok h2, hc⟩
  · cases h
def dP (C m q : Str) (st : Stmt) : He5.DefA := ⟨fun K => He5.wf K (He.ga K C) "property" m, m, q, defArgs st, defBody st, defScope st, [], []⟩
/-! cells: names with integers or None -/
def IntN (v : V) : Prop := (∃ i : Int, v = .int i) ∨ v = .non
def RowOk (kvs : List (Key × V)) : Prop := (∃ ks : List Str, kvs.map (·.1) = ks.map Sum.inr ∧ ks.Nodup ∧ ∀ z ∈ ks, IsWord z) ∧ (∀ p ∈ kvs, IntN p.2) ∧ kvs.length ≤ 60
theorem IntN.flat {v : V} (h : IntN v) : flatB v = true := by
  rcases h with ⟨i, rfl⟩ | rfl <;> rfl
theorem RowOk.nodup {kvs : List (Key × V)} (h : RowOk kvs) : (kvs.map (·.1)).Nodup := by
  obtain ⟨⟨ks, e, n, _⟩, _⟩ := h
  rw [e]
  exact List.Pairwise.map _ (fun a b ne q => ne (Sum.inr.inj q)) n
theorem valV_mem : ∀ {kvs : List (Key × V)}, (kvs.map (·.1)).Nodup → ∀ p ∈ kvs, valV kvs p.1 = some p.2
  | [], _, _, h => by cases h
  | (k, v) :: r, n, p, h => by
    rw [List.map_cons, List.nodup_cons] at n
    rcases List.mem_cons.mp h with rfl | h
    · show valV ((k, v) :: r) k = some v
      unfold valV
      simp
    · have ne : p.1 ≠ k := fun e => n.1 (by rw [← e]; exact List.mem_map.mpr ⟨p, h, rfl⟩)
      have ih := valV_mem n.2 p h
      have hd : decide (k = p.1) = false := decide_eq_false fun e => ne e.symm
      show ((List.find? (fun kv => decide (kv.1 = p.1)) ((k, v) :: r)).map (·.2)) = some p.2
      rw [List.find?_cons]
      simp only [hd]
      exact ih
theorem depth_strs : ∀ ks : List Str, PyData.depthAll (ks.map PyData.str) = 0
  | [] => rfl
  | z :: r => by
    show max (PyData.depth (.str z)) (PyData.depthAll (r.map PyData.str)) = 0
    rw [depth_strs r]
    rfl
theorem canLay_strs : ∀ ks : List Str, (∀ z ∈ ks, IsWord z) → PyData.canLayAll0 (ks.map PyData.str) = true
  | [], _ => rfl
  | z :: r, h => by
    show (PyData.canLay0 (.str z) && PyData.canLayAll0 (r.map PyData.str)) = true
    rw [canLay_strs r fun y hy => h y (List.mem_cons_of_mem _ hy)]
    have h3 : PyData.canLay0 (.str z) = true := by
      show z.cps.all (· < 0x110000) = true
      rw [← Array.all_toList, List.all_eq_true]
      intro c hc
      have := (h z List.mem_cons_self).2.2 c hc
      exact decide_eq_true (by omega)
    rw [h3]
    rfl
theorem shaped_strs (ks : List Str) (h : ∀ z ∈ ks, IsWord z) : SeqAt.shaped (.list (ks.map PyData.str)) = true := by
  have e1 : PyData.canLay0 (.list (ks.map PyData.str)) = true := canLay_strs ks h
  have e2 : PyData.depth (.list (ks.map PyData.str)) ≤ 64 := by
    have e3 := depth_strs ks
    simp only [PyData.depth, e3]
    decide
  unfold SeqAt.shaped
  rw [e1, decide_eq_true e2]
  rfl
theorem eqv_strs {ks : List Str} (h : ∀ z ∈ ks, IsWord z) : PyData.eqv (.list (ks.map PyData.str)) (.list (ks.map PyData.str)) = true := PySem.SeqAt.eqv_refl _ (canLay_strs ks h)
theorem scalN {v : V} (h : IntN v) : scal v v = true := by
  rcases h with ⟨i, rfl⟩ | rfl <;> rfl
theorem src_ne_strs {H : Hp} {a l : Addr} {n : Nat} {ws : List Str} (hs : Src H a n) (hl : H l = some (.lst (ws.map V.str))) : l ≠ a := fun z => by
  obtain ⟨_, _, _, h, _⟩ := hs
  subst z
  rw [hl] at h
  have e := HO.lst.inj (Option.some.inj h)
  cases ws with
  | nil => cases e
  | cons z r => cases e
theorem str_it {a b : Str} {A B : Prop} (h1 : a = b → A) (h2 : a ≠ b → B) : if decide (V.str a = V.str b) = true then A else B := by
  by_cases e : a = b
  · rw [if_pos (by rw [decide_eq_true_eq, e])]; exact h1 e
  · rw [if_neg (by rw [decide_eq_true_eq]; exact fun z => e (V.str.inj z))]; exact h2 e
theorem dec_str {a b : Str} : decide (V.str a = V.str b) = decide (a = b) := by
  by_cases e : a = b
  · rw [decide_eq_true e, decide_eq_true (by rw [e])]
  · rw [decide_eq_false e, decide_eq_false fun z => e (V.str.inj z)]
/-- both branches come to R -/
theorem sq_ifj {c : TT} {t1 t2 u : TS} {D : Ends} {σ : L2.St} {H : Hp} (P : Bool → Hp → Prop) (R : Hp → Prop) (h : ∀ Q : Bool → Hp → Prop, (∀ b H', P b H' → Q b H') → c σ H Q) (kt : ∀ H', P true H' → ∀ D' : Ends, (∀ G, R G → D'.nx σ G) → t1 D' σ H') (kf : ∀ H', P false H' → ∀ D' : Ends, (∀ G, R G → D'.nx σ G) → t2 D' σ H')
    (k : ∀ G, R G → u D σ G) : tSeq (tIfS c t1 t2) u D σ H :=
  h _ fun b H' p => by
    cases b with
    | true => rw [if_pos rfl]; exact kt H' p _ k
    | false => rw [if_neg Bool.false_ne_true]; exact kf H' p _ k
theorem s1_do {te : TE} {D : Ends} {σ : L2.St} {H : Hp} (P : V → Hp → Prop) (h : ∀ Q : VK, (∀ x H', P x H' → Q x H') → te σ H Q) (k : ∀ x H', P x H' → D.nx σ H') : (tDrop te) D σ H := h _ k
theorem putK_new {kvs : List (Key × V)} {k : Key} {v : V} (h : k ∉ kvs.map (·.1)) : putK kvs k v = kvs ++ [(k, v)] := by
  unfold putK
  rw [if_neg]
  intro e
  obtain ⟨p, hp, e2⟩ := List.any_eq_true.mp e
  exact h (List.mem_map.mpr ⟨p, hp, of_decide_eq_true e2⟩)
theorem RowOk.snoc {kvs : List (Key × V)} {z : Str} {v : V} (h : RowOk kvs) (n : (Sum.inr z : Key) ∉ kvs.map (·.1)) (hz : IsWord z) (hv : IntN v) (l : kvs.length < 60) : RowOk (kvs ++ [(.inr z, v)]) := by
  obtain ⟨⟨ks, e, nd, w⟩, i, _⟩ := h
  refine ⟨⟨ks ++ [z], by rw [List.map_append, List.map_append, e]; rfl, ?_, fun y hy => ?_⟩, fun p hp => ?_, by rw [List.length_append]; show kvs.length + 1 ≤ 60; omega⟩
  · refine List.nodup_append.mpr ⟨nd, by simp, fun x hx y hy => ?_⟩
    rw [List.mem_singleton.mp hy]
    rintro rfl
    exact n (by rw [e]; exact List.mem_map.mpr ⟨x, hx, rfl⟩)
  · rcases List.mem_append.mp hy with m | m
    · exact w y m
    · rw [List.mem_singleton.mp m]; exact hz
  · rcases List.mem_append.mp hp with m | m
    · exact i p m
    · rw [List.mem_singleton.mp m]; exact hv
theorem RowOk.nil : RowOk [] := ⟨⟨[], rfl, List.nodup_nil, fun _ h => (List.not_mem_nil h).elim⟩, fun _ h => (List.not_mem_nil h).elim, Nat.zero_le _⟩
theorem mergeK_new : ∀ (more kvs : List (Key × V)), ((kvs ++ more).map (·.1)).Nodup → mergeK kvs more = kvs ++ more
  | [], kvs, _ => by rw [List.append_nil]; rfl
  | p :: r, kvs, h => by
    have h2 : ((kvs ++ [p]) ++ r) = kvs ++ p :: r := by simp
    have n : p.1 ∉ kvs.map (·.1) := fun m => by
      rw [List.map_append, List.map_cons] at h
      exact (List.nodup_append.mp h).2.2 p.1 m p.1 List.mem_cons_self rfl
    show mergeK (putK kvs p.1 p.2) r = _
    rw [putK_new n, ← h2]
    exact mergeK_new r (kvs ++ [p]) (by rw [h2]; exact h)
theorem RowOk.rev {kvs : List (Key × V)} (h : RowOk kvs) : RowOk kvs.reverse := by
  obtain ⟨⟨ks, e, n, w⟩, i, l⟩ := h
  refine ⟨⟨ks.reverse, by rw [List.map_reverse, e, List.map_reverse], List.Perm.nodup (List.reverse_perm ks).symm n, fun z hz => w z (List.mem_reverse.mp hz)⟩, fun p hp => i p (List.mem_reverse.mp hp), by rw [List.length_reverse]; exact l⟩
end Lw

set_option Elab.async false
set_option linter.all false
set_option maxRecDepth 100000
set_option maxHeartbeats 2000000
namespace Mk
open PySem PySem.Spec PyProof.Rows L2
/-! o.m(e, .., k = v, ..): some by place, the others by name -/
section
variable {X : Cx} {CX : CXT} {k n : Nat} {C f : Addr} {fd : FuncData} {ps ks : List PySem.Str} {sp : Sp} {E : XK} {o e : Expr} {es : List Expr} {kws : List Keyword} {m : PySem.Str} {pos apos : Pos} {ta : TE} {t tk : TA} {pl : Sem Bool} {g : List Value → List Value → List Value} {gV : List V → List V → List V}
def tMethK (C : Addr) (m : PySem.Str) (n l : Nat) (sp : Sp) (gV : List V → List V → List V) (E : XK) (ta : TE) (t tk : TA) : TE := fun σ H Q => ta σ H fun x G => ∃ (a dx : Addr) (fs : List (PySem.Str × V)), x = .ref a ∧ G a = some (.ins C dx fs) ∧ fs.lookup m = none ∧ t σ G fun ys G1 => ys.length + 1 = n ∧ tk σ G1 fun zs G2 => zs.length = l ∧ sp (gV (.ref a :: ys) zs) G2 Q E
theorem pe_methK (he : PE X o ta) (c : Cls X.K C) (hm : Meth X.K C m f) (F : FnOk X.prog X.w X.K X.mg X.base CX k f fd ps sp) (hr : Room k X.A) (hb : KBn X.K fd ps n ks g gV) (hx : Passes CX X E) (ha : PA X (e :: es) t) (hkw : PK X kws tk)
    (hall : (backToKw pos (keywordEach kws X.env)).all (·.1.isSome) = true := by rfl) (hks : (backToKw pos (keywordEach kws X.env)).filterMap (·.1) = ks := by rfl)
    (hpl : ((backTo pos (starEach (e :: es) X.env)).any (·.1) || (backToKw pos (keywordEach kws X.env)).any (·.1.isNone)) = false := by rfl) (hs : starEach (e :: es) X.env = (false, eval e X.env) :: starEach es X.env := by rfl)
    (ht : eval (.Call (.Attribute o m apos) (e :: es) kws pos) X.env = (do
      let a ← eval o X.env
      standAt apos.atName
      let (f, first) ← holding [a] (getMethod a m pl)
      callWith pos f first (backTo pos (starEach (e :: es) X.env)) (backToKw pos (keywordEach kws X.env))) := by rfl) :
    PE X (.Call (.Attribute o m apos) (e :: es) kws pos) (tMethK C m n ks.length sp gV E ta t tk) := by
  constructor
  intro pins s σ H Q I h
  refine PySem.W.methodCall_KW (pl := pl) (thn (he.run pins s σ H _ I h) ?_) ht
  rintro u s1 ⟨x, G, I1, rx, a, dx, fs, rfl, ea, l, q⟩
  obtain rfl : u = Value.ref a := rx
  refine getmeth_ok I1 ea c hm l ?_
  refine PySem.W.callWith_KW (first := [.ref a]) (h₀ := X.base) I1.ok.mod.kin hm.kp hall (thn (ha.run pos pins s1 σ G _ I1 q) ?_) hpl hs
  rintro us s2 ⟨ys, G1, I2, ry, l1, q1⟩
  refine thn (hkw.run pos pins s2 σ G1 _ I2 q1) ?_
  rintro ws s3 ⟨zs, G2, I3, rz, l2, q2⟩
  refine ⟨I3.kIn, ?_⟩
  rw [hks]
  have all : Vals (V.ref a :: ys) (Value.ref a :: us) := .cons (show RelV (.ref a) (Value.ref a) from rfl) ry
  have r2 := hb.rel all rz
  have bt := hb.to s3 (Value.ref a :: us) ws I3.kIn (by rw [List.length_cons, ← ry.length]; exact l1) (rz.length.symm.trans l2)
  refine wpAny_call (codeAny_mono (F.run X.A X.stack s3 G2 ⟨Value.ref a :: us, ks.zip ws⟩ (g (Value.ref a :: us) ws) (gV (V.ref a :: ys) zs) Q E hr I3.env0 bt r2 q2) ?_)
  intro r s' hq
  match r, hq with
  | .error e, hq => exact hx pins σ G2 s3 e s' I3 hq
  | .ok (.ret u), hq => exact I3.after hq
  | .ok .next, hq => exact hq.elim
  | .ok .brk, hq => exact hq.elim
  | .ok .cont, hq => exact hq.elim
/-- what is never reached -/
theorem ps_nev {X : Cx} {st : Stmt} : PS X st (fun _ _ _ => False) := ⟨fun _ _ _ _ _ _ h => h.elim⟩
end
end Mk

set_option Elab.async false
set_option linter.all false
set_option maxRecDepth 100000
set_option maxHeartbeats 4000000
namespace Iw
open PySem PySem.Spec PyProof.Rows L2 PySem.SeqAt
/-! any plain value in a list or a tuple of texts -/
section
variable {A : Around} {s : Shared}
theorem str_no {z : Str} {u : Tok} {d : Addr} {es : Array DictEntry} {ep : Nat} {dd : Option Addr} {sl : Array (Option Value)} : Meets (Builtin.«str.__eq__» ⟨[.str z u, .ref d], []⟩) (fun _ R s => s.heap.get? d = some ⟨.type "dict", dd, .dict es ep, sl⟩ ∧ R (.ok (.ret .notImplemented)) s) :=
  .of_wp fun prog w A R s h => by
    obtain ⟨hp, g, dr, tk, os⟩ := s
    obtain ⟨there, h⟩ := h
    have no := F.sub_dict_str
    wp_walk using wpAny_loadPart' there, wpAny_load there
    exact ⟨_, rfl, h⟩
theorem dict_no {z : Str} {u : Tok} {d : Addr} {es : Array DictEntry} {ep : Nat} {dd : Option Addr} {sl : Array (Option Value)} : Meets (Builtin.«dict.__eq__» ⟨[.ref d, .str z u], []⟩) (fun _ R s => s.heap.get? d = some ⟨.type "dict", dd, .dict es ep, sl⟩ ∧ R (.ok (.ret .notImplemented)) s) :=
  .of_wp fun prog w A R s h => by
    obtain ⟨hp, g, dr, tk, os⟩ := s
    obtain ⟨there, h⟩ := h
    have no := F.sub_str_dict
    wp_walk using wpAny_loadPart' there, wpAny_load there
    exact ⟨_, rfl, h⟩
theorem str_dict {z : Str} {u : Tok} {d : Addr} {es : Array DictEntry} {ep : Nat} {dd : Option Addr} {sl : Array (Option Value)} (there : s.heap.get? d = some ⟨.type "dict", dd, .dict es ep, sl⟩) (room : A.units < cLine) : EqAt A s (.str z u) (.ref d) false := fun prog w E Q h => by
  unfold eqBool
  refine wpAny_holding (wpAny_ite_split (fun e => absurd (eq_of_beq e) nofun) fun _ => wpAny_bind ?_)
  exact rc_eq_decline_or (k := false) (typeIs_str s z u) ⟨_, there, rfl⟩ (by decide) F.sub_dict_str F.slot_str_eq F.slot_dict_eq_refl
    (fun _ q => call_meets F.slot_str_eq (typeIs_str s z u) F.entry_str_eq (F.args_str_eq_2 _ _) str_no ⟨there, q⟩)
    (fun _ q => call_meets F.slot_dict_eq_refl ⟨_, there, rfl⟩ F.entry_dict_eq (F.args_dict_eq_2 _ _) dict_no ⟨there, q⟩)
    (fun _ q => wpAny_of_eq (rfl : isSame (.str z u) (.ref d) = pure false) q) (.inr room) (wpAny_truthy_bool h)
end
end Iw
namespace Iw
open PySem PySem.Spec PyProof.Rows L2 PySem.SeqAt
section
variable {X : Cx}
/-- a list, a tuple, a dict -/
inductive Box (H : Hp) (a : Addr) : Prop where
  | lst {xs : List V} (h : H a = some (.lst xs)) : Box H a
  | tup {xs : List V} (h : H a = some (.tup xs)) : Box H a
  | dic {kvs : List (Key × V)} (h : H a = some (.dK kvs)) : Box H a
def rInW (K : PySem.W.Frag) (neg : Bool) : R2 := fun x y H Q => ∃ (p : Addr) (ts : List Str), y = .ref p ∧ (SqL K H p (ts.map V.str) ∨ SqT K H p (ts.map V.str)) ∧
  ((flatV x = true ∧ Q (.bl (if neg then !inV x (ts.map V.str) else inV x (ts.map V.str))) H) ∨ (∃ a, x = .ref a ∧ Box H a ∧ Q (.bl neg) H))
theorem box_eq {pins : List (Addr × Obj)} {σ : L2.St} {H : Hp} {s : Shared} (I : Inv X pins σ H s) {B : Around} (room : B.units < cLine) {a : Addr} (b : Box H a) (z : Str) (u : Tok) : EqAt B s (.str z u) (.ref a) false := by
  cases b with
  | lst h =>
    obtain ⟨its, rv, pl, hz⟩ := I.list (SqL.of h)
    exact EqAt.str_list z u pl.isList room
  | tup h =>
    obtain ⟨its, rv, pt, hz⟩ := I.tuple (SqT.of h)
    exact EqAt.str_tuple z u pt room
  | dic h =>
    obtain ⟨hz, hs0, vs, kv, o, es, ep, there, ex, da, _⟩ := I.hok a _ h
    obtain ⟨c, dd, d0, sl⟩ := o
    obtain ⟨e1, e2, e3⟩ := ex
    simp only at e1 da
    subst e1 da
    exact str_dict there room
theorem texts_no {pins : List (Addr × Obj)} {σ : L2.St} {H : Hp} {s : Shared} (I : Inv X pins σ H s) {B : Around} (room : B.units < cLine) {a : Addr} (b : Box H a) : ∀ {ts : List Str} {us : List Value}, Vals (ts.map V.str) us → ∀ v ∈ us, EqAt B s v (.ref a) ((fun _ => false) v)
  | [], _, .nil => fun v hv => by cases hv
  | z :: ts, u :: us, .cons r t => fun v hv => by
    rcases List.mem_cons.mp hv with rfl | hv
    · obtain ⟨k, rfl⟩ := r
      exact box_eq I room b z k
    · exact texts_no I room b t v hv
theorem op_inW (hu : X.A.units + 64 < cLine) : OpR X (compareOp .In) (rInW X.K false) := by
  intro pins s σ H x y v u Q I rx ry ⟨p, ts, e, hq, h⟩
  rcases h with ⟨fx, q⟩ | ⟨a, rfl, b, q⟩
  · exact op_in_seq pins s σ H x y v u Q I rx ry ⟨p, _, e, hq, fx, Lw.flat_strs ts, q⟩
  · subst e
    cases ry
    cases rx
    rcases hq with hq | hq
    · obtain ⟨its, r, pl, hz⟩ := I.list hq
      refine SeqAt.in_listAt (fun _ => false) pl.isList (fun w hw => texts_no I (by show X.A.units + 1 < cLine; omega) b r w (by simpa using hw)) ⟨.bl _, H, I, rfl, ?_⟩
      rw [show its.toArray.any (fun _ => false) = false by simp]
      exact q
    · obtain ⟨its, r, pl, hz⟩ := I.tuple hq
      refine SeqAt.in_tupleAt (fun _ => false) pl (fun w hw => texts_no I (by show X.A.units + 1 < cLine; omega) b r w (by simpa using hw)) ⟨.bl _, H, I, rfl, ?_⟩
      rw [show its.toArray.any (fun _ => false) = false by simp]
      exact q
theorem op_notInW (hu : X.A.units + 64 < cLine) : OpR X (compareOp .NotIn) (rInW X.K true) := by
  intro pins s σ H x y v u Q I rx ry ⟨p, ts, e, hq, h⟩
  rcases h with ⟨fx, q⟩ | ⟨a, rfl, b, q⟩
  · exact op_notIn_seq pins s σ H x y v u Q I rx ry ⟨p, _, e, hq, fx, Lw.flat_strs ts, q⟩
  · subst e
    cases ry
    cases rx
    rcases hq with hq | hq
    · obtain ⟨its, r, pl, hz⟩ := I.list hq
      refine SeqAt.notIn_listAt (fun _ => false) pl.isList (fun w hw => texts_no I (by show X.A.units + 1 < cLine; omega) b r w (by simpa using hw)) ⟨.bl _, H, I, rfl, ?_⟩
      rw [show its.toArray.any (fun _ => false) = false by simp]
      exact q
    · obtain ⟨its, r, pl, hz⟩ := I.tuple hq
      refine SeqAt.notIn_tupleAt (fun _ => false) pl (fun w hw => texts_no I (by show X.A.units + 1 < cLine; omega) b r w (by simpa using hw)) ⟨.bl _, H, I, rfl, ?_⟩
      rw [show its.toArray.any (fun _ => false) = false by simp]
      exact q
end
end Iw

set_option Elab.async false
set_option linter.all false
set_option maxRecDepth 100000
set_option maxHeartbeats 1000000
namespace Kd
open PySem PySem.Spec PyProof.Rows L2
/-! for x in D, D a dict of the module's own top with texts as keys -/
structure KyD (K : PySem.W.Frag) (w : World) (d : Addr) (zs : List Str) : Prop where
  ex : ∃ es n, KDict K w d es n ∧ es.size = zs.length ∧ ∀ (i : Nat) (e : DictEntry), es[i]? = some e → ∃ z t, zs[i]? = some z ∧ e.key = .str z t
def Itc (zs : List Str) : It := ⟨fun i _ => i < zs.length, fun i G x G2 => G2 = G ∧ ∃ z, zs[i]? = some z ∧ x = .str z, fun i _ => zs.length ≤ i⟩
def iKd (d : Addr) (zs : List Str) (td : TE) : TI := fun σ G R => td σ G fun x G1 => x = .ref d ∧ R (Itc zs) G1
section
variable {PR : Program} {wo : World} {KF : PySem.W.Frag} {tt : Expr} {dd : Addr} {zs : List Str} {es : Array DictEntry} {n : Nat}
theorem turn_kd (ir : Addr) (D : KDict KF wo dd es n) (hz : es.size = zs.length) (hk : ∀ (i : Nat) (e : DictEntry), es[i]? = some e → ∃ z t, zs[i]? = some z ∧ e.key = .str z t) :
    Turn PR wo KF tt (Itc zs) [ir] ir (fun i hp => hp.IsKeyIter ir dd i zs.length n) where
  mem := List.mem_singleton.mpr rfl
  obj := fun i hp q b mb => by
    rw [List.mem_singleton.mp mb]
    obtain ⟨ob, e1, e2, e3⟩ := q
    exact ⟨ob, e1, fun v y => by rw [e3] at y; cases y⟩
  keep := fun i h1 h2 q kp => q.at fun ob e1 => kp ir (List.mem_singleton.mpr rfl) ob e1
  item := by
    intro X e1 e2 e3 cm i ps s σ G EX I fo st go
    subst e1 e2 e3
    have gi : i < es.size := by rw [hz]; exact go
    obtain ⟨a0, a1, a2, a3, a4, a5⟩ := fo ir (List.mem_singleton.mpr rfl)
    have he : es[i]? = some es[i] := Array.getElem?_eq_getElem gi
    obtain ⟨z, t, q1, q2⟩ := hk i _ he
    refine next_key_item st (I.kIn _ _ D.at_) rfl hz he fun h' st' sb => ?_
    have J : Inv X ps σ G { s with heap := h' } := I.turned (t' := s.toks) (fun b ob mb e => (sb.2 b mb).trans e) a0 a1 a3 a4 a5
    obtain ⟨ob, b1, b2, b3⟩ := id st'
    refine ⟨es[i].key, rfl, ?_⟩
    exact go_of (s := { s with heap := h' }) b1 b2 b3 (by decide) ⟨.str z, G, J, ⟨t, q2⟩, ⟨rfl, z, q1, rfl⟩, st', fun b mb => (fo b mb).1⟩
  done := by
    intro X e1 e2 e3 cm i ps s σ G EX I fo st go
    subst e1 e2 e3
    obtain ⟨a0, a1, a2, a3, a4, a5⟩ := fo ir (List.mem_singleton.mpr rfl)
    exact next_key_end (I.ok.hd cm) st (I.kIn _ _ D.at_) rfl hz go fun h' eb => ⟨rfl, I.turned (t' := s.toks) (fun b ob mb e => eb b ob mb e) a0 a1 a3 a4 a5⟩
  self := fun A i s Q E st go => wpAny_pyIter_keyiter st go
end
theorem pi_kd {X : Cx} {tg e : Expr} {td : TE} {d : Addr} {zs : List Str} (D : KyD X.K X.w d zs) (he : PE X e td) : PI X tg e (iKd d zs td) := by
  obtain ⟨es, n, KD, hz, hk⟩ := D.ex
  refine ⟨fun ps s σ G R I h => ?_⟩
  refine thn (he.run ps s σ G _ I h) fun u s1 ⟨x, G1, I1, rx, ex, q⟩ => ?_
  subst ex
  obtain rfl : u = Value.ref d := rx
  refine iter_keys KD.low (I1.kIn _ _ KD.at_) ⟨rfl, rfl, rfl⟩ rfl ?_
  exact pi_one (tk := s1.toks) I1 _ (turn_kd _ KD hz hk) ⟨_, Heap.get?_push_size _ rfl, rfl, by rw [hz] <;> rfl⟩ q
theorem walk_kd {zs : List Str} : Walk (Itc zs) zs.length (fun _ => True) (fun i G x G2 => G2 = G ∧ ∃ z, zs[i]? = some z ∧ x = .str z) :=
  ⟨fun _ _ h _ => h, fun _ _ => Nat.le_refl _, fun _ _ _ _ _ _ y => y⟩
end Kd

set_option Elab.async false
set_option linter.all false
set_option maxRecDepth 100000
set_option maxHeartbeats 4000000
namespace PySem
namespace Ge
open Builtin Builtin.ObjectAttr
/-! own errors under any base: own classes, then the base's row -/
def tailB (tl : List Value) : List Value → Bool
  | .ref _ :: r => tailB tl r
  | l => l == tl
theorem tail_cut {tl : List Value} : ∀ l : List Value, tailB tl l = true → ∃ cs : List Addr, l = cs.map Value.ref ++ tl
  | [], h => ⟨[], beq_iff_eq.mp h⟩
  | v :: r, h => by
    match v, h with
    | .ref c, h =>
      obtain ⟨cs, e⟩ := tail_cut (tl := tl) r h
      exact ⟨c :: cs, by rw [e]; rfl⟩
    | .none, h | .ellipsis, h | .notImplemented, h | .bool _, h | .int _ _, h | .float _ _, h | .str _ _, h | .bytes _ _, h | .type _, h | .builtin _, h => exact ⟨[], beq_iff_eq.mp h⟩
/-- what a base's row must do -/
structure Tl (tl : List Value) : Prop where
  pass : ∀ self : Value, refuseLoop self "__setattr__" tl = pure ()
  obj : tl.contains (.type "object") = true
theorem row_contains {tl l : List Value} (h : tailB tl l = true) (T : String) : l.contains (.type T) = tl.contains (.type T) := by
  obtain ⟨cs, rfl⟩ := tail_cut l h
  induction cs with
  | nil => rfl
  | cons c cs ih =>
    rw [List.map_cons, List.cons_append, List.contains_cons, ih (by
      have h' : tailB tl (Value.ref c :: (cs.map Value.ref ++ tl)) = true := h
      exact h')]
    rfl
theorem row_pass {tl l : List Value} (t : Tl tl) (self : Value) (h : tailB tl l = true) : refuseLoop self "__setattr__" l = pure () := by
  obtain ⟨cs, rfl⟩ := tail_cut l h
  clear h
  induction cs with
  | nil => exact t.pass self
  | cons c cs ih =>
    show refuseLoop self "__setattr__" (Value.ref c :: (cs.map Value.ref ++ tl)) = _
    rw [refuseLoop_ref]
    exact ih
theorem row_some {tl l : List Value} (t : Tl tl) (h : tailB tl l = true) : l.isEmpty = false := by
  cases l with
  | nil =>
    have e : ([] : List Value) = tl := beq_iff_eq.mp h
    have o := t.obj
    rw [← e] at o
    cases o
  | cons _ _ => rfl
section
variable {prog : Program} {w : World} {A : Around} {R : Result → Shared → Prop} {hp : Heap} {g : Array GenState} {d : Drawn} {t : Nat} {os : OsState}
/-- object.__setattr__ on an error that has no dict yet -/
theorem first_field {tl : List Value} (T : Tl tl) {K : W.Frag} {name : Str} {tk : Tok} {v : Value} {x C : Addr} {fv : Array Value} {cd : ClassData} (KI : K.In hp) (here : hp.get? x = some { cls := .ref C, data := .fields fv }) (cls : W.clsIn K C = some cd)
    (row : tailB tl cd.mro = true) (dict : cd.hasDict = true) (no : W.findIn K (.ref C) name = some none)
    (out : ∀ h' tk' dx, (∀ b o, b ≠ x → hp.get? b = some o → h'.get? b = some o) → hp.objs.size ≤ dx → dx ≠ x → h'.get? x = some { cls := .ref C, dict := some dx, data := .fields fv } → h'.Ns1 dx (fun y => if y = name then some v else none) →
      R (.ok (.ret .none)) ⟨h', g, d, tk', os⟩) : codeAny (model prog w) A (.call (.builtin "object.__setattr__") ⟨[.ref x, .str name tk, v], []⟩) R ⟨hp, g, d, t, os⟩ := by
  have at_ : W.InstAt hp x { cls := .ref C, data := .fields fv } C none := ⟨here, rfl, rfl, trivial⟩
  have facts := F.store_object
  have some_ := row_some T row
  have below : cd.mro.contains (.type "object") = true := by rw [row_contains row "object"]; exact T.obj
  have apart : x ≠ hp.objs.size := Nat.ne_of_lt (Heap.lt_size here)
  have mem : W.mroIn K C (.type "object") = some true := by
    unfold W.mroIn
    rw [cls, Option.bind_some, if_neg (by rw [some_]; decide), below]
  have isObj : W.Looks (model prog w) hp (isInstance (.ref x) (.type "object")) true := at_.type.andThen (W.looks_mroIn KI mem)
  refine codeAny_call_builtin facts.slot.plain facts.entry ?_
  refine @W.check_slot (model prog w) _ _ ⟨hp, g, d, t, os⟩ "object.__setattr__" "object" "__setattr__" (.ref x) [.str name tk, v] [] _ facts.kind facts.split isObj (facts.args (.ref x) (.str name tk) v) ?_
  have rowL : W.Looks (model prog w) hp (mroOf (.ref C)) cd.mro := (W.looks_clsIn KI cls).andThen .now
  have taker : W.Looks (model prog w) hp (storeTaker? none) none := .now
  have dataL : W.Looks (model prog w) hp (classData C) cd := W.looks_clsIn KI cls
  rw [W.osa_eq, refuse_eq]
  refine wpAny_bind (wpAny_bind (at_.type.at (wpAny_bind (rowL.at ?_))))
  rw [row_pass T _ row]
  refine wpAny_pure (wpAny_bind (at_.type.at (wpAny_bind ((W.looks_findIn KI no).at (wpAny_bind (taker.at ?_))))))
  show wpAny _ _ (storeInOwnDict (.ref x) (.ref C) (.str name tk) name v false) _ _ _
  obtain ⟨c1, c2, c3, c4, c5, c6, c7, c8, c9, c10, c11⟩ := cd
  cases (show c6 = true from dict)
  unfold storeInOwnDict
  unfold ownDictForStores
  repeat (first | with_reducible refine HandSPX.store_in_new ?_ ?_ | with_reducible refine wpAny_loadPart_at here ?_ | with_reducible refine dataL.at ?_ | wp_step)
  · exact ⟨_, #[], _, (Heap.get?_update_ne _ _ _ _ apart.symm).trans (Heap.get?_push_at rfl rfl), rfl, fun e he => absurd he (by simp), fun _ => rfl⟩
  · intro h' tk' ns same
    have here2 : (hp.push { cls := .type "dict", data := .dict #[] }).get? x = some { cls := .ref C, data := .fields fv } := Heap.get?_push_of_some _ here
    apply out h' tk' hp.objs.size _ (Nat.le_refl _) apart.symm _ ns
    · intro b o n q
      have n2 : b ≠ hp.objs.size := Nat.ne_of_lt (Heap.lt_size q)
      rw [same.2 b n2, Heap.get?_update_ne _ _ _ _ n]
      exact Heap.get?_push_of_some _ q
    · rw [same.2 x apart]
      exact Heap.get?_update_self _ here2 rfl
end
end Ge
end PySem
namespace Ge
open PySem PySem.Spec PyProof.Rows L2
/-- an own error class with an own __init__, over any base -/
structure OexT (K : PySem.W.Frag) (C : Addr) (tl : List Value) (newId : String) : Prop where
  base : PySem.Ge.Tl tl
  cls : ∃ nm q N bs bm sn sub ab col dd k0 k1 k2 k3 k5, K.lookup C = some (excClassObj nm q C N bs bm true sn sub ab col dd k0 k1 k2 k3 k5 newId) ∧ PySem.Ge.tailB tl bm = true
  sa : PySem.W.findIn K (.ref C) "__setattr__" = some (some (.builtin "object.__setattr__"))
  exC : PySem.W.subIn K (.ref C) (.type "BaseException") = some true
  tyC : PySem.W.typeIn K (.ref C) = some (.type "type")
  kC : PySem.W.keepIn K (.ref C) = true
section
variable {X : Cx} {pins : List (Addr × Obj)} {σ : L2.St} {H : Hp} {s : Shared} {a C : Addr} {tl : List Value} {newId : String} {f : Str} {y : V} {u : Value} {Q : Unit → Shared → Prop} {E : Value → Shared → Prop} {A : Around}
theorem other_obj {H : Hp} {a b : Addr} {o u : HO} (ha : H a = some o) (hb : H b = some u) (d : o ≠ u) : b ≠ a := by
  rintro rfl
  rw [ha] at hb
  cases hb
  exact d rfl
/-- its first field is set -/
theorem set_first (T : OexT X.K C tl newId) (I : Inv X pins σ H s) (e : H a = some (exo a C none)) (no : PySem.W.findIn X.K (.ref C) f = some none) (ry : RelV y u)
    (out : ∀ dx s', H dx = none → dx ≠ a → Inv X pins σ (upd (upd H dx (exd dx [(f, y)])) a (exo a C (some dx))) s' → Q () s') : wpAny (model X.prog X.w) A (setAttr (.ref a) f u) Q E s := by
  obtain ⟨nm, q, N, bs, bm, sn, sub, ab, col, dd, k0, k1, k2, k3, k5, at_, row⟩ := T.cls
  have data : PySem.W.clsIn X.K C = some { name := nm, bases := bs, mro := .ref C :: bm, ns := N, qualname := q, hasDict := true, slotNames := sn, subclasses := sub, abstract := ab, collection := col, hasDel := false } := by
    unfold PySem.W.clsIn
    rw [at_]
  obtain ⟨t1, ho⟩ := exo_at I.hok e
  obtain ⟨hp, g, d, t, os⟩ := s
  refine PySem.W.set_plain I.kIn (ox := { cls := .ref C, dict := none, data := .fields #[.ref t1, .none, .none, .none, .bool false, .none] }) (od := none) ⟨ho, rfl, rfl, trivial⟩ T.sa ?_
  apply PySem.Ge.first_field T.base I.kIn ho data (show PySem.Ge.tailB tl (.ref C :: bm) = true from row) rfl no
  intro h' tk' dx kept fresh ne here ns
  have free : H dx = none := I.hok.fresh fresh
  have below : ∀ {b : Addr} {o : Obj}, hp.get? b = some o → b ≠ dx := fun q => Nat.ne_of_lt (Nat.lt_of_lt_of_le (Heap.lt_size q) fresh)
  have off : ∀ {b : Addr}, H b = none → b ≠ a := by
    rintro b n rfl
    exact absurd (e.symm.trans n) (by simp)
  have at2 : ∀ {b : Addr} {o : HO}, H b = some o → exo a C none ≠ o → (upd (upd H dx (exd dx [(f, y)])) a (exo a C (some dx))) b = some o := fun {b o} q n => by
    rw [upd_ne (other_obj e q n), upd_ne (ne_of_none q free)]
    exact q
  refine out dx _ free ne (I.un (t' := tk') ?_ ?_)
  · exact
      { keep := fun b o q n _ _ => kept b o (off n) q
        slot := fun b o q n _ _ => ⟨o.slots, kept b o (off n) q⟩
        free := fun b o q n _ => by
          rw [upd_ne (off n), upd_ne (below q)]
          exact n
        there := fun b o q _ => by
          rcases Decidable.em (b = a) with rfl | hb
          · exact ⟨_, here⟩
          · exact ⟨o, kept b o hb q⟩
        tups := fun b xs q => at2 q exo_tup
        frzs := fun b o v q => at2 q exo_frz
        tbls := fun b ps q => ⟨#[], by rw [at2 q exo_tbl]; simp⟩ }
  · intro b o q
    rcases Decidable.em (b = a) with rfl | hb
    · rw [upd_same] at q
      cases q
      exact exo_ok here
    rw [upd_ne hb] at q
    rcases Decidable.em (b = dx) with rfl | hd
    · rw [upd_same] at q
      cases q
      exact exd_ok ns (relO_put (fs := []) ry fun _ => trivial)
    rw [upd_ne hd] at q
    refine (I.hok b o q).stay (fun c v hc z => kept c v ?_ z) (fun c hc => at2 hc exo_own) (fun c xs hc => at2 hc exo_tup)
    rcases hc with rfl | hc
    · exact hb
    · exact other_obj e hc exo_own
end
/-- self.f = e, the first field of such an error -/
def tOstT (K : PySem.W.Frag) (f : Str) (to te : TE) : TS := fun D σ H => te σ H fun y H1 => to σ H1 fun x H2 => ∃ (a C : Addr) (tl : List Value) (newId : String), x = .ref a ∧ OexT K C tl newId ∧ PySem.W.findIn K (.ref C) f = some none ∧ H2 a = some (exo a C none) ∧
  ∀ dx, H2 dx = none → dx ≠ a → D.nx σ (upd (upd H2 dx (exd dx [(f, y)])) a (exo a C (some dx)))
section
variable {X : Cx} {o e : Expr} {f : Str} {p' pos : Pos} {to te : TE}
theorem ps_ostT (ho : PE X o to) (he : PE X e te) (hs : swapsWith e (some (.Attribute o f p')) pos.line X.env = pure false := by rfl) : PS X (.Assign [.Attribute o f p'] e pos) (tOstT X.K f to te) := by
  constructor
  intro pins s σ H D I h
  refine plainObj_wpAny_Assign_Attribute (thn (he.run pins s σ H _ I h) ?_) hs
  rintro v s1 ⟨y, H1, I1, r1, q1⟩
  refine thn (ho.run pins s1 σ H1 _ I1 q1) ?_
  rintro u s2 ⟨x, H2, I2, r2, a, C, tl, newId, rfl, T, no, ea, q⟩
  obtain rfl : u = Value.ref a := r2
  exact set_first T I2 ea no r1 fun dx s' n ne J => ⟨σ, _, J, q dx n ne⟩
end
section
variable {X : Cx} {CX : CXT} {x : Str} {e : Expr} {es : List Expr} {ta : TA} {p pos : Pos} {C fI : Addr} {k : Nat} {fd : FuncData} {ps : List Str} {sp : Sp} {ds : List Value} {dvs : List V} {tl : List Value} {B newId initId : String}
/-- such an error, made: its context is None -/
theorem pmk_T (F : ExcBaseFacts B newId initId tl) (T : OexT X.K C tl newId) (iC : PySem.W.findIn X.K (.ref C) "__init__" = some (some (.ref fI))) (tI : PySem.W.typeIn X.K (.ref fI) = some (.type "function")) (F1 : FnOk X.prog X.w X.K X.mg X.base CX k fI fd ps sp) (hr : Room (k + 1) X.A) (hb : Binds X.K fd ps ds)
    (hd : Vals dvs ds) (hx : Passes CX X (fun _ _ _ => False)) (hm : X.mg x = some (.ref C)) (ha : PA X (e :: es) ta) (hg : Gl X x := by rfl) (hdb : (x == ("__debug__" : Str)) = false := by decide) (he : starEach (e :: es) X.env = (false, eval e X.env) :: starEach es X.env := by rfl)
    (hpl : (backTo pos (starEach es X.env)).any (·.1) = false := by rfl) : L2N.PMk X (.Call (.Name x p) (e :: es) [] pos) (tMkO C sp dvs ta) := fun pins s σ H Q I h => by
  obtain ⟨nm, qn, N, bs, bm, sn, sub, ab, col, dd, k0, k1, k2, k3, k5, hC, row⟩ := T.cls
  refine wpAny_Call_Name_kw (ld_glob I hg hm (PySem.W.callWith_K (h₀ := X.base) I.ok.mod.kin T.kC (thn (ha.run pos pins s σ H _ I h) fun us st ⟨vs, H1, J, rv, hz, q1⟩ => ⟨J.kIn, ?_⟩) he hpl) hdb)
  show wpAny _ _ (call (.ref C) us) _ _ _
  obtain ⟨hp, g, dr, tk, os⟩ := st
  have up : hp.objs.size ≤ hp.objs.size + 1 := by omega
  have spec := q1 (hp.objs.size + 1) (J.hok.fresh up)
  have stay : ∀ b o, hp.get? b = some o → ((hp.push (PySem.W.kdv_tup us)).push (PySem.HandSPX.excO C hp.objs.size)).get? b = some o := fun b o z => Heap.get?_push_of_some _ (Heap.get?_push_of_some _ z)
  have there : ((hp.push (PySem.W.kdv_tup us)).push (PySem.HandSPX.excO C hp.objs.size)).get? (hp.objs.size + 1) = some (PySem.HandSPX.excO C hp.objs.size) := by heap_get
  have J2 := J.laid (t' := tk) (a := hp.objs.size + 1) (o := exo (hp.objs.size + 1) C none) (h' := (hp.push (PySem.W.kdv_tup us)).push (PySem.HandSPX.excO C hp.objs.size)) stay up (exo_ok there)
  have rel : Vals (V.ref (hp.objs.size + 1) :: (vs ++ dvs)) (Value.ref (hp.objs.size + 1) :: (us ++ ds)) := .cons rfl (rv.append hd)
  have len : (Value.ref (hp.objs.size + 1) :: us ++ ds).length = ps.length := (F1.len _ _ _ _ spec ▸ rel.length).symm
  have line : us.length ≤ sizeLine := by rw [← Paired.length rv, sizeLine_eq]; omega
  refine wpAny_call (PySem.HandSPX.call_own F (PySem.Ge.row_contains row) (J.kIn _ _ hC) (PySem.W.looks_findIn J.kIn iC) (fun self => PySem.W.bind_fn J.kIn self tI) line
    (codeAny_mono (F1.run _ X.stack _ _ ⟨Value.ref (hp.objs.size + 1) :: us, []⟩ (Value.ref (hp.objs.size + 1) :: (us ++ ds)) _ _ (fun _ _ _ => False) (hr.make C us []) (J2.env0.make C us []) (hb _ (Value.ref (hp.objs.size + 1) :: us) J2.kIn len) rel spec) fun r s' back => ?_))
  match r, back with
  | .error er, back => exact hx pins σ _ _ er s' J2 back
  | .ok .next, back => exact back.elim
  | .ok .brk, back => exact back.elim
  | .ok .cont, back => exact back.elim
  | .ok (.ret u), back =>
    obtain ⟨v, H2, os2, bare2, un2, hok2, rv2, ev, d, fs, ea, ed, hd1, q2⟩ := back
    subst ev
    obtain ⟨h2, g2, d2, t2, os'⟩ := s'
    obtain ⟨t0, G, JG, kG, ge, hoe, na⟩ := mk_end0 (d2 := d2) (t2 := t2) J up stay un2 hok2 os2 bare2 ea ed hd1
    exact ⟨rv2, _, _, _, ⟨G, g2, d2, t2, os'⟩, _, .ref C, some d, rfl, JG, kG, ge, hoe, ⟨rfl, rfl, fun z ez => by cases ez; rfl⟩, rfl, rfl, na, rfl, bare2, raises_own T.exC T.tyC, q2⟩
end
abbrev leTail : List Value := [.type "LookupError", .type "Exception", .type "BaseException", .type "object"]
abbrev rtTail : List Value := [.type "RuntimeError", .type "Exception", .type "BaseException", .type "object"]
abbrev vlTail : List Value := [.type "ValueError", .type "Exception", .type "BaseException", .type "object"]
theorem tl_le : PySem.Ge.Tl leTail := ⟨PySem.F.store_LookupError.passes, by decide +kernel⟩
theorem tl_rt : PySem.Ge.Tl rtTail := ⟨PySem.F.store_RuntimeError.passes, by decide +kernel⟩
theorem tl_vl : PySem.Ge.Tl vlTail := ⟨PySem.F.store_ValueError.passes, by decide +kernel⟩
end Ge

set_option Elab.async false
set_option linter.all false
set_option maxRecDepth 100000
set_option maxHeartbeats 4000000
namespace PySem
namespace Gf
open Builtin Builtin.ObjectAttr
section
variable {prog : Program} {w : World} {A : Around} {R : Result → Shared → Prop} {hp : Heap} {g : Array GenState} {d : Drawn} {t : Nat} {os : OsState}
/-- object.__setattr__ on an own error that has its dict, over any base -/
theorem next_field {tl : List Value} (T : Ge.Tl tl) {K : W.Frag} {name : Str} {tk : Tok} {v : Value} {x C dx : Addr} {fv : Array Value} {cd : ClassData} {m0 : Str → Option Value} {nl : List Str} (KI : K.In hp) (here : hp.get? x = some { cls := .ref C, dict := some dx, data := .fields fv })
    (hns : hp.Ns1 dx m0) (hw : Within m0 nl) (hz : nl.length ≤ 1000) (cls : W.clsIn K C = some cd) (row : Ge.tailB tl cd.mro = true) (dict : cd.hasDict = true) (no : W.findIn K (.ref C) name = some none)
    (out : ∀ h' tk', (∀ b o, b ≠ dx → hp.get? b = some o → h'.get? b = some o) → h'.Ns1 dx (fun y => if y = name then some v else m0 y) → R (.ok (.ret .none)) ⟨h', g, d, tk', os⟩) :
    codeAny (model prog w) A (.call (.builtin "object.__setattr__") ⟨[.ref x, .str name tk, v], []⟩) R ⟨hp, g, d, t, os⟩ := by
  obtain ⟨oD, esD, epD, hoD, hdD, _⟩ := hns.count hw
  have at_ : W.InstAt hp x { cls := .ref C, dict := some dx, data := .fields fv } C (some oD) := ⟨here, rfl, rfl, hoD⟩
  have facts := F.store_object
  have some_ := Ge.row_some T row
  have below : cd.mro.contains (.type "object") = true := by rw [Ge.row_contains row "object"]; exact T.obj
  have mem : W.mroIn K C (.type "object") = some true := by
    unfold W.mroIn
    rw [cls, Option.bind_some, if_neg (by rw [some_]; decide), below]
  have isObj : W.Looks (model prog w) hp (isInstance (.ref x) (.type "object")) true := at_.type.andThen (W.looks_mroIn KI mem)
  refine codeAny_call_builtin facts.slot.plain facts.entry ?_
  refine @W.check_slot (model prog w) _ _ ⟨hp, g, d, t, os⟩ "object.__setattr__" "object" "__setattr__" (.ref x) [.str name tk, v] [] _ facts.kind facts.split isObj (facts.args (.ref x) (.str name tk) v) ?_
  have rowL : W.Looks (model prog w) hp (mroOf (.ref C)) cd.mro := (W.looks_clsIn KI cls).andThen .now
  have taker : W.Looks (model prog w) hp (storeTaker? none) none := .now
  have dataL : W.Looks (model prog w) hp (classData C) cd := W.looks_clsIn KI cls
  rw [W.osa_eq, refuse_eq]
  refine wpAny_bind (wpAny_bind (at_.type.at (wpAny_bind (rowL.at ?_))))
  rw [Ge.row_pass T _ row]
  refine wpAny_pure (wpAny_bind (at_.type.at (wpAny_bind ((W.looks_findIn KI no).at (wpAny_bind (taker.at ?_))))))
  show wpAny _ _ (storeInOwnDict (.ref x) (.ref C) (.str name tk) name v false) _ _ _
  obtain ⟨c1, c2, c3, c4, c5, c6, c7, c8, c9, c10, c11⟩ := cd
  cases (show c6 = true from dict)
  unfold storeInOwnDict ownDictForStores
  repeat (first | with_reducible refine PySem.OEX.store_in_old hns hw hz ?_ | with_reducible refine wpAny_loadPart_at here ?_ | with_reducible refine dataL.at ?_ | wp_step)
  intro h' tk' hn' hs
  exact out h' tk' (fun b o hb ho => (hs.2 b hb).trans ho) hn'
end
end Gf
end PySem
namespace Gf
open PySem PySem.Spec PyProof.Rows L2 Ge
section
variable {X : Cx} {pins : List (Addr × Obj)} {σ : L2.St} {H : Hp} {s : Shared} {a C dx : Addr} {fs : List (Str × V)} {tl : List Value} {newId : String} {f : Str} {y : V} {u : Value} {Q : Unit → Shared → Prop} {E : Value → Shared → Prop} {A : Around}
theorem set_next (T : OexT X.K C tl newId) (I : Inv X pins σ H s) (e : H a = some (exo a C (some dx))) (ed : H dx = some (exd dx fs)) (hl : fs.length ≤ 900) (no : PySem.W.findIn X.K (.ref C) f = some none) (ry : RelV y u)
    (h : ∀ s', Inv X pins σ (upd H dx (exd dx ((f, y) :: fs))) s' → Q () s') : wpAny (model X.prog X.w) A (setAttr (.ref a) f u) Q E s := by
  obtain ⟨nm, q, N, bs, bm, sn, sub, ab, col, dd, k0, k1, k2, k3, k5, hC, row⟩ := T.cls
  have hcl : PySem.W.clsIn X.K C = some { name := nm, bases := bs, mro := .ref C :: bm, ns := N, qualname := q, hasDict := true, slotNames := sn, subclasses := sub, abstract := ab, collection := col, hasDel := false } := by
    unfold PySem.W.clsIn
    rw [hC]
  obtain ⟨t1, ho⟩ := exo_at I.hok e
  obtain ⟨mA, hns, rel⟩ := exd_at I.hok ed
  have hw := within_of rel
  obtain ⟨hp, g, d, t, os⟩ := s
  obtain ⟨oD, _, _, hoD, _, _⟩ := hns.count hw
  refine PySem.W.set_plain I.kIn (ox := { cls := .ref C, dict := some dx, data := .fields #[.ref t1, .none, .none, .none, .bool false, .none] }) (od := some oD) ⟨ho, rfl, rfl, hoD⟩ T.sa ?_
  refine PySem.Gf.next_field T.base I.kIn ho hns hw (by rw [List.length_map]; omega) hcl (show PySem.Ge.tailB tl (.ref C :: bm) = true from row) rfl no (fun h' tk' k hn => ?_)
  have hd : ∃ o, h'.get? dx = some o := by
    obtain ⟨o, _, _, e', _⟩ := hn
    exact ⟨o, e'⟩
  exact h _ (I.write (t' := tk') (x := dx) (e := dx) (o := exd dx ((f, y) :: fs)) (by rw [ed]; exact True.intro) (.inl rfl) k hd (exd_ok hn (relO_put ry rel)))
end
/-- self.f = e, a later field of such an error -/
def tOstN (K : PySem.W.Frag) (f : Str) (to te : TE) : TS := fun D σ H => te σ H fun y H1 => to σ H1 fun x H2 => ∃ (a C dx : Addr) (fs : List (Str × V)) (tl : List Value) (newId : String), x = .ref a ∧ OexT K C tl newId ∧ PySem.W.findIn K (.ref C) f = some none ∧ H2 a = some (exo a C (some dx)) ∧ H2 dx = some (exd dx fs) ∧ fs.length ≤ 900 ∧
  D.nx σ (upd H2 dx (exd dx ((f, y) :: fs)))
section
variable {X : Cx} {o e : Expr} {f : Str} {p' pos : Pos} {to te : TE}
theorem ps_ostN (ho : PE X o to) (he : PE X e te) (hs : swapsWith e (some (.Attribute o f p')) pos.line X.env = pure false := by rfl) : PS X (.Assign [.Attribute o f p'] e pos) (tOstN X.K f to te) := by
  constructor
  intro pins s σ H D I h
  refine plainObj_wpAny_Assign_Attribute (thn (he.run pins s σ H _ I h) ?_) hs
  rintro v s1 ⟨y, H1, I1, r1, q1⟩
  refine thn (ho.run pins s1 σ H1 _ I1 q1) ?_
  rintro u s2 ⟨x, H2, I2, r2, a, C, dx, fs, tl, newId, rfl, T, no, ea, ed, hl, q⟩
  obtain rfl : u = Value.ref a := r2
  exact set_next T I2 ea ed hl no r1 fun s' J => ⟨σ, _, J, q⟩
end
end Gf

set_option Elab.async false
set_option linter.all false
set_option maxRecDepth 100000
set_option maxHeartbeats 4000000
namespace Tr
open PySem PySem.Spec PyProof.Rows L2
/-! rules that the terms of filters need -/
section
variable {X : Cx}
def b2n (b : Bool) : Int := if b = true then 1 else 0
/-- bool - bool -/
theorem op_subBl : OpR X (binaryOp .Sub) (fun x y H Q => ∃ a b : Bool, x = .bl a ∧ y = .bl b ∧ Q (.int (b2n a - b2n b)) H) := by
  intro pins s σ H x y v u Q I rx ry h
  obtain ⟨a, b, rfl, rfl, q⟩ := h
  cases (show v = Value.bool a from rx)
  cases (show u = Value.bool b from ry)
  exact PyProof.Rows.sub_bool ⟨.int _, H, I.tok _, ⟨_, rfl⟩, q⟩
/-- x is b, x None or a bool, b a bool -/
theorem op_isNb : OpR X (compareOp .Is) (fun x y H Q => ∃ (a : Option Bool) (b : Bool), x = (match a with | some c => .bl c | none => .non) ∧ y = .bl b ∧ Q (.bl (decide (a = some b))) H) := by
  intro pins s σ H x y v u Q I rx ry h
  obtain ⟨a, b, rfl, rfl, q⟩ := h
  cases (show u = Value.bool b from ry)
  cases a with
  | none =>
    cases (show v = Value.none from rx)
    exact wpAny_is_other rfl (fun z => by cases z) ⟨.bl false, H, I, rfl, by simpa using q⟩
  | some c =>
    cases (show v = Value.bool c from rx)
    by_cases e : c = b
    · subst e
      exact wpAny_is_self rfl ⟨.bl true, H, I, rfl, by simpa using q⟩
    · exact wpAny_is_other rfl (fun z => e (Value.bool.inj z)) ⟨.bl false, H, I, rfl, by simpa [e] using q⟩
/-- d[k], d a written dict -/
def tKd (K : PySem.W.Frag) (d : Addr) (td ty : TE) : TE := fun σ H Q => td σ H fun x H1 => ty σ H1 fun y H2 => ∃ (z : Str) (u0 : Value) (v0 : V), x = .ref d ∧ y = .str z ∧ PySem.W.nsIn K d z = some (some u0) ∧ RelV v0 u0 ∧ Q v0 H2
theorem pe_kd {o i : Expr} {pos : Pos} {td ty : TE} {d : Addr} {es : Array DictEntry} {n : Nat} (D : KDict X.K X.w d es n) (ho : PE X o td) (hi : PE X i ty) (hs : NoSl i) : PE X (.Subscript o i pos) (tKd X.K d td ty) := by
  constructor
  intro pins s σ H Q I h
  refine subD_of PySem.F.slot_dict_getitem.lookup hs (thn (ho.run pins s σ H _ I h) ?_)
  rintro u s1 ⟨x, H1, I1, rx, q1⟩
  refine thn (hi.run pins s1 σ H1 _ I1 q1) ?_
  rintro iv s2 ⟨y, H2, I2, ry, z, u0, v0, rfl, rfl, e, r, q⟩
  obtain rfl : u = Value.ref d := rx
  exact ⟨kd_type D I2, op_item_kd D pins s2 σ H2 (.ref d) (.str z) (.ref d) iv Q I2 rfl ry ⟨z, u0, v0, rfl, rfl, e, r, q⟩⟩
end
end Tr

set_option Elab.async false
set_option linter.all false
set_option maxRecDepth 100000
set_option maxHeartbeats 40000000
namespace Lw
open PySem PySem.Spec PyProof.Rows L2
def top (i : Nat) : Stmt := PySem.Challenge.pw_filteredcopies_k34_habits_turned.main.body.getD i (.Pass ⟨0, 0, 0, 0⟩)
abbrev sCopied : Stmt := top 1
abbrev sValues : Stmt := top 12
abbrev sNamesH : Stmt := top 13
section
variable {P : Program} {w : World} {K : PySem.W.Frag} {mg : Str → Option Value} {base : Heap}
theorem itTb {b : Bool} {A B : Prop} (h : b = true) (a : A) : if b = true then A else B := by rw [if_pos h]; exact a
theorem itFb {b : Bool} {A B : Prop} (h : b = false) (a : B) : if b = true then A else B := by rw [h, if_neg Bool.false_ne_true]; exact a
/-! copied, of what an error keeps -/
def NotT (K : PySem.W.Frag) (H : Hp) (v : V) (c : String) : Prop := ∃ t, TyX K H v t ∧ PySem.W.kitOne K t (.type c) = some false
def Plain3 (K : PySem.W.Frag) (H : Hp) (v : V) : Prop := NotT K H v "list" ∧ NotT K H v "tuple" ∧ NotT K H v "dict"
theorem plain_int {H : Hp} {v : V} (h : IntN v) : Plain3 K H v := by
  rcases h with ⟨i, rfl⟩ | rfl
  · exact ⟨⟨_, ty_int i, kit_ty (by decide +kernel)⟩, ⟨_, ty_int i, kit_ty (by decide +kernel)⟩, ⟨_, ty_int i, kit_ty (by decide +kernel)⟩⟩
  · exact ⟨⟨_, ty_non, kit_ty (by decide +kernel)⟩, ⟨_, ty_non, kit_ty (by decide +kernel)⟩, ⟨_, ty_non, kit_ty (by decide +kernel)⟩⟩
structure TxtCo (mg : Str → Option Value) : Prop where
  isi : mg "isinstance" = none
  list : mg "list" = none
  tuple : mg "tuple" = none
  dict : mg "dict" = none
def spCopF (K : PySem.W.Frag) : Sp := fun vs H Q _ => ∃ v : V, vs = [v] ∧ Plain3 K H v ∧ Q v H
abbrev nCopied : List Str := ["value", "part", "name"]
theorem scCopied : FnScope nCopied ["value"] (defScope sCopied) := ⟨rfl, rfl, rfl, by decide +kernel, rfl, by decide +kernel, by decide +kernel⟩
theorem ok_copF {f : Addr} {fd : FuncData} (F : FnP K "copied" sCopied f fd) (T : TxtCo mg) : FnOk P w K mg base CX0 1 f fd ["value"] (spCopF K) := by
  refine F.ok scCopied (fun vs H Q E h => ?_) (fun cdv A outer s H vs Q E hr h => ?_)
  · obtain ⟨v, rfl, _⟩ := h
    rfl
  · obtain ⟨v, rfl, ⟨⟨t1, h1, k1⟩, ⟨t2, h2, k2⟩, ⟨t3, h3, k3⟩⟩, k⟩ := h
    refine ⟨_, PSs.nox (pss_cons (ps_if (pt_val (pe_callB call_isi (by rfl) T.isi (by decide +kernel) (pa_cons (pv 0) (pa_cons (pe_bltn (v := .ty "list") (by rfl) T.list (by decide +kernel) rfl) pa_nil)))) (pss_one ps_never) pss_nil)
      (pss_cons (ps_if (pt_val (pe_callB call_isi (by rfl) T.isi (by decide +kernel) (pa_cons (pv 0) (pa_cons (pe_bltn (v := .ty "tuple") (by rfl) T.tuple (by decide +kernel) rfl) pa_nil)))) (pss_one ps_never) pss_nil)
      (pss_cons (ps_if (pt_val (pe_callB call_isi (by rfl) T.isi (by decide +kernel) (pa_cons (pv 0) (pa_cons (pe_bltn (v := .ty "dict") (by rfl) T.dict (by decide +kernel) rfl) pa_nil)))) (pss_one ps_never) pss_nil)
      (pss_one (ps_ret (pv 0)))))), ?_⟩
    exact ⟨_, rfl, _, _, _, _, false, rfl, .ty _, h1, k1, false, rfl, itFb rfl ⟨_, rfl, _, _, _, _, false, rfl, .ty _, h2, k2, false, rfl, itFb rfl ⟨_, rfl, _, _, _, _, false, rfl, .ty _, h3, k3, false, rfl, itFb rfl ⟨_, rfl, k⟩⟩⟩⟩
/-! the four habits and their values -/
def habVals : List (Str × List Str) := [("present", ["stop", "keep", "replace", "merge"]), ("lacking", ["stop", "skip", "make"]), ("gone", ["stop", "skip"]), ("shared", ["one", "all"])]
abbrev habNames : List Str := ["present", "lacking", "gone", "shared"]
structure HabV (K : PySem.W.Frag) (w : World) (mg : Str → Option Value) (dV : Addr) : Prop where
  gV : mg "VALUES" = some (.ref dV)
  ky : Kd.KyD K w dV habNames
  at_ : ∀ q ∈ habVals, ∃ a, KDct K w dV q.1 (.ref a) ∧ ∀ H, SqT K H a (q.2.map V.str)
/-! the law's own words for habits -/
def valsOf (h : Str) : List Str := if h = "present" then ["stop", "keep", "replace", "merge"] else if h = "lacking" then ["stop", "skip", "make"] else if h = "gone" then ["stop", "skip"] else ["one", "all"]
def spValues : Sp := fun vs H Q _ => ∃ h : Str, vs = [.str h] ∧ h ∈ habNames ∧ ∀ l G, Same H G → H l = none → G l = some (.lst ((valsOf h).map V.str)) → Q (.ref l) G
theorem scValues : FnScope ["habit"] ["habit"] (defScope sValues) := ⟨rfl, rfl, rfl, by decide +kernel, rfl, by decide +kernel, by decide +kernel⟩
theorem ok_values {f : Addr} {fd : FuncData} (F : FnP K "_law_values" sValues f fd) : FnOk P w K mg base CX0 1 f fd ["habit"] spValues := by
  refine F.ok scValues (fun vs H Q E h => ?_) (fun cdv A outer s0 H vs Q E hr h => ?_)
  · obtain ⟨h, rfl, _⟩ := h
    rfl
  · obtain ⟨h, rfl, hm, k⟩ := h
    have hu := hu_of hr
    refine ⟨_, PSs.nox (pss_cons (ps_if (pt_cmpR op_eq (pv 0) pe_str (nomark _)) (pss_one (ps_ret (pe_lst (pa_cons pe_str (pa_cons pe_str (pa_cons pe_str (pa_cons pe_str pa_nil))))))) pss_nil)
      (pss_one (ps_ret (pe_dget hu (pe_disp (pps_cons pe_str (pe_lst (pa_cons pe_str (pa_cons pe_str (pa_cons pe_str pa_nil)))) (pps_cons pe_str (pe_lst (pa_cons pe_str (pa_cons pe_str pa_nil))) (pps_cons pe_str (pe_lst (pa_cons pe_str (pa_cons pe_str pa_nil))) pps_nil))) (by rfl) (by rfl) (fun z => by cases z) (by decide)) (pv 0) (fun _ _ => rfl))))), ?_⟩
    refine ⟨_, rfl, rfl, _, rfl, str_it (fun e => ?_) (fun ne => ?_)⟩
    · subst e
      exact ⟨(by show 4 ≤ sizeLine; decide), fun l nl => k l _ (Lw.Same.new (Same.refl H) nl) nl upd_same⟩
    · intro t nt
      have st := Lw.Same.new (o := .dK []) (Same.refl H) nt
      have gt0 : (upd H t (.dK [])) t = some (.dK []) := upd_same
      generalize upd H t (.dK []) = H1 at st gt0 ⊢
      refine ⟨(by show 3 ≤ sizeLine; decide), fun l1 n1 => ⟨(by show 2 ≤ sizeLine; decide), fun l2 n2 => ⟨(by show 2 ≤ sizeLine; decide), fun l3 n3 => ?_⟩⟩⟩
      have s1 := Lw.Same.new (o := .lst [.str "stop", .str "skip", .str "make"]) (Same.refl H1) n1
      have g1 : (upd H1 l1 (.lst [.str "stop", .str "skip", .str "make"])) l1 = some (.lst [.str "stop", .str "skip", .str "make"]) := upd_same
      generalize upd H1 l1 (.lst [.str "stop", .str "skip", .str "make"]) = H2 at n2 n3 s1 g1 ⊢
      have s2 := Lw.Same.new (o := .lst [.str "stop", .str "skip"]) (Same.refl H2) n2
      have g2 : (upd H2 l2 (.lst [.str "stop", .str "skip"])) l2 = some (.lst [.str "stop", .str "skip"]) := upd_same
      generalize upd H2 l2 (.lst [.str "stop", .str "skip"]) = H3 at n3 s2 g2 ⊢
      have s3 := Lw.Same.new (o := .lst [.str "one", .str "all"]) (Same.refl H3) n3
      have g3 : (upd H3 l3 (.lst [.str "one", .str "all"])) l3 = some (.lst [.str "one", .str "all"]) := upd_same
      generalize upd H3 l3 (.lst [.str "one", .str "all"]) = H4 at s3 g3 ⊢
      have gt := s3 _ _ (s2 _ _ (s1 _ _ gt0))
      have sH := st.trans (s1.trans (s2.trans s3))
      have nH : ∀ {b : Addr} {G : Hp}, Same H G → G b = none → H b = none := fun s e => none_of_same s e
      have fin : ∀ (l : Addr) (xs : List V), H l = none → l ≠ t → H4 l = some (.lst xs) → xs = (valsOf h).map V.str → ∀ o, Q (.ref l) (upd H4 t o) := fun l xs nl lt gl e o => by
        refine k l _ (fun b z hb => ?_) nl ?_
        · rw [upd_ne (ne_of_none hb nt)]
          exact sH _ _ hb
        · rw [upd_ne lt, ← e]
          exact gl
      have t1 : l1 ≠ t := (ne_of_none gt0 n1).symm
      have t2 : l2 ≠ t := (ne_of_none (s1 _ _ gt0) n2).symm
      have t3 : l3 ≠ t := (ne_of_none (s2 _ _ (s1 _ _ gt0)) n3).symm
      refine ⟨gt, [(Sum.inr "lacking", .ref l1), (Sum.inr "gone", .ref l2), (Sum.inr "shared", .ref l3)], rfl, (by show 3 ≤ 15; decide), ?_⟩
      refine ⟨_, rfl, t, ?_⟩
      rcases List.mem_cons.mp hm with e | hm
      · exact absurd e ne
      rcases List.mem_cons.mp hm with e | hm
      · subst e
        exact ⟨.ref l1, rfl, .inl ⟨_, Sum.inr "lacking", .inl upd_same, rfl, rfl⟩, fin l1 _ (nH st n1) t1 (s3 _ _ (s2 _ _ g1)) rfl _⟩
      rcases List.mem_cons.mp hm with e | hm
      · subst e
        exact ⟨.ref l2, rfl, .inl ⟨_, Sum.inr "gone", .inl upd_same, rfl, rfl⟩, fin l2 _ (nH (st.trans s1) n2) t2 (s3 _ _ g2) rfl _⟩
      rcases List.mem_cons.mp hm with e | hm
      · subst e
        exact ⟨.ref l3, rfl, .inl ⟨_, Sum.inr "shared", .inl upd_same, rfl, rfl⟩, fin l3 _ (nH (st.trans (s1.trans s2)) n3) t3 g3 rfl _⟩
      · cases hm
def spNamesH : Sp := fun vs H Q _ => vs = [] ∧ ∀ l G, Same H G → H l = none → G l = some (.lst (habNames.map V.str)) → Q (.ref l) G
theorem scNamesH : FnScope [] [] (defScope sNamesH) := ⟨rfl, rfl, rfl, by decide +kernel, rfl, by decide +kernel, by decide +kernel⟩
theorem ok_namesH {f : Addr} {fd : FuncData} (F : FnP K "_law_names_of_habits" sNamesH f fd) : FnOk P w K mg base CX0 1 f fd [] spNamesH := by
  refine F.ok scNamesH (fun vs H Q E h => ?_) (fun cdv A outer s0 H vs Q E hr h => ?_)
  · obtain ⟨rfl, _⟩ := h
    rfl
  · obtain ⟨rfl, k⟩ := h
    refine ⟨_, PSs.nox (pss_one (ps_ret (pe_lst (pa_cons pe_str (pa_cons pe_str (pa_cons pe_str (pa_cons pe_str pa_nil))))))), ?_⟩
    exact ⟨(by show 4 ≤ sizeLine; decide), fun l nl => k l _ (Lw.Same.new (Same.refl H) nl) nl upd_same⟩
/-! a value of any kind; whether it is one of some texts -/
inductive PlV (a : Addr) (H : Hp) : V → Prop where
  | str (z : Str) : PlV a H (.str z)
  | non : PlV a H .non
  | int (i : Int) : PlV a H (.int i)
  | bl (b : Bool) : PlV a H (.bl b)
  | box {p : Addr} (n : p ≠ a) (b : Iw.Box H p) : PlV a H (.ref p)
theorem PlV.keep {a : Addr} {H G : Hp} {v : V} (k : Keep a H G) (h : PlV a H v) : PlV a G v := by
  cases h with
  | str z => exact .str z
  | non => exact .non
  | int i => exact .int i
  | bl b => exact .bl b
  | box n b =>
    cases b with
    | lst h => exact .box n (.lst (k _ _ n h))
    | tup h => exact .box n (.tup (k _ _ n h))
    | dic h => exact .box n (.dic (k _ _ n h))
theorem PlV.ext {a : Addr} {H G : Hp} {v : V} (k : ∀ b o, H b = some o → (∀ ps, o ≠ .tbl ps) → G b = some o) (h : PlV a H v) : PlV a G v := by
  cases h with
  | str z => exact .str z
  | non => exact .non
  | int i => exact .int i
  | bl b => exact .bl b
  | box n b =>
    cases b with
    | lst h => exact .box n (.lst (k _ _ h fun ps z => by cases z))
    | tup h => exact .box n (.tup (k _ _ h fun ps z => by cases z))
    | dic h => exact .box n (.dic (k _ _ h fun ps z => by cases z))
theorem PlV.same {a : Addr} {H G : Hp} {v : V} (s : Same H G) (h : PlV a H v) : PlV a G v := h.ext fun b o e _ => s b o e
def gdL (ts : List Str) : V → Bool
  | .str z => decide (z ∈ ts)
  | _ => false
theorem inV_no {v : V} (h : ∀ z, eqV (.str z) v = false) (ts : List Str) : inV v (ts.map V.str) = false := by
  induction ts with
  | nil => rfl
  | cons z ts ih =>
    show (eqV (.str z) v || inV v (ts.map V.str)) = false
    rw [h z, ih]
    rfl
/-- v not in ts -/
theorem notIn_of {K : PySem.W.Frag} {a p : Addr} {H : Hp} {v : V} {ts : List Str} {Q : VK} (h : PlV a H v) (hq : SqL K H p (ts.map V.str) ∨ SqT K H p (ts.map V.str)) (q : Q (.bl (!gdL ts v)) H) : Iw.rInW K true v (.ref p) H Q := by
  cases h with
  | str z => exact ⟨p, ts, rfl, hq, .inl ⟨rfl, by rw [if_pos rfl, inV_str]; exact q⟩⟩
  | non => exact ⟨p, ts, rfl, hq, .inl ⟨rfl, by rw [if_pos rfl, inV_no (fun _ => rfl)]; exact q⟩⟩
  | int i => exact ⟨p, ts, rfl, hq, .inl ⟨rfl, by rw [if_pos rfl, inV_no (fun _ => rfl)]; exact q⟩⟩
  | bl b => exact ⟨p, ts, rfl, hq, .inl ⟨rfl, by rw [if_pos rfl, inV_no (fun _ => rfl)]; exact q⟩⟩
  | box n b => exact ⟨p, ts, rfl, hq, .inr ⟨_, rfl, b, q⟩⟩
/-- the four values -/
structure Hv where
  pr : V
  la : V
  go : V
  sh : V
def Hv.of (y : Hv) (h : Str) : V := if h = "present" then y.pr else if h = "lacking" then y.la else if h = "gone" then y.go else y.sh
def gd (y : Hv) (h : Str) : Bool := gdL (valsOf h) (y.of h)
def wrongs (y : Hv) : List Str := habNames.filter fun h => !gd y h
structure PlH (a : Addr) (H : Hp) (y : Hv) : Prop where
  pr : PlV a H y.pr
  la : PlV a H y.la
  go : PlV a H y.go
  sh : PlV a H y.sh
theorem PlH.of {a : Addr} {H : Hp} {y : Hv} (h : PlH a H y) (n : Str) : PlV a H (y.of n) := by
  unfold Hv.of
  split
  · exact h.pr
  split
  · exact h.la
  split
  · exact h.go
  · exact h.sh
theorem PlH.keep {a : Addr} {H G : Hp} {y : Hv} (k : Keep a H G) (h : PlH a H y) : PlH a G y := ⟨h.pr.keep k, h.la.keep k, h.go.keep k, h.sh.keep k⟩
theorem PlH.same {a : Addr} {H G : Hp} {y : Hv} (k : Same H G) (h : PlH a H y) : PlH a G y := ⟨h.pr.same k, h.la.same k, h.go.same k, h.sh.same k⟩
theorem PlH.ext {a : Addr} {H G : Hp} {y : Hv} (k : ∀ b o, H b = some o → (∀ ps, o ≠ .tbl ps) → G b = some o) (h : PlH a H y) : PlH a G y := ⟨h.pr.ext k, h.la.ext k, h.go.ext k, h.sh.ext k⟩
theorem wrongs_nil {y : Hv} : wrongs y = [] ↔ ∀ h ∈ habNames, gd y h = true := by
  unfold wrongs
  rw [List.filter_eq_nil_iff]
  exact ⟨fun h x hx => by simpa using h x hx, fun h x hx => by simp [h x hx]⟩
/-- the first wrong one -/
theorem wrongs_at {y : Hv} {i : Nat} {z : Str} (hz : habNames[i]? = some z) (before : ∀ j x, j < i → habNames[j]? = some x → gd y x = true) (no : gd y z = false) : ∃ r, wrongs y = z :: r := by
  obtain ⟨hi, e⟩ := List.getElem?_eq_some_iff.mp hz
  have e2 : habNames = habNames.take i ++ (z :: habNames.drop (i + 1)) := by rw [← e, List.getElem_cons_drop, List.take_append_drop]
  refine ⟨(habNames.drop (i + 1)).filter fun h => !gd y h, ?_⟩
  unfold wrongs
  rw [e2, List.filter_append, List.filter_cons_of_pos (by simp [no])]
  rw [List.filter_eq_nil_iff.mpr fun x hx => ?_, List.nil_append]
  · congr 1
    rw [← e2]
  · obtain ⟨j, hj, ej⟩ := List.mem_iff_getElem.mp hx
    rw [List.length_take] at hj
    have := before j x (by omega) (by rw [← ej, List.getElem_take, List.getElem?_eq_getElem])
    simp [this]
end
end Lw

set_option Elab.async false
set_option linter.all false
set_option maxRecDepth 100000
set_option maxHeartbeats 4000000
namespace Lg
open PySem PySem.Spec PyProof.Rows L2
/-! promises of defs that are called where no guard of repr stands -/
structure FnG (P : Program) (w : World) (K : PySem.W.Frag) (mg : Str → Option Value) (base : Heap) (X0 : CXT) (k : Nat) (f : Addr) (fd : FuncData) (ps : List Str) (sp : Sp) : Prop where
  few : ∀ vs H Q E, sp vs H Q E → vs.length = ps.length
  goes : ∀ (A : Around) (fs : List Env) (s : Shared) (H : Hp) (ar : Args) (us : List Value) (vs : List V) (Q : VK) (E : XK), A.guards = some [] → Room k A → Env0 P w K mg base A fs s H → BindsTo s fd ar (ps.zip us) →
    Vals vs us → sp vs H Q E → codeAny (model P w) A (.call (.ref f) ar) (CR X0 fs P w H s Q E) s
section
variable {P : Program} {w : World} {K : PySem.W.Frag} {mg : Str → Option Value} {base : Heap} {X0 : CXT} {k : Nat} {x qual : Str} {params : Arguments} {bd : List Stmt} {scope : Scope} {dvs : List V} {kws : List (Str × V)} {f : Addr} {fd : FuncData} {N ps : List Str} {sp : Sp}
theorem FnG.of (F : FnOk P w K mg base X0 k f fd ps sp) : FnG P w K mg base X0 k f fd ps sp := ⟨F.len, fun A fs s H ar us vs Q E _ => F.run A fs s H ar us vs Q E⟩
/-- such a def's body -/
theorem okG (F : FunD K x qual params bd scope dvs kws f fd) (S : FnScope N ps scope) (few : ∀ vs H Q E, sp vs H Q E → vs.length = ps.length)
    (does : ∀ (cd : Value) (A : Around) (fs : List Env) (s : Shared) (H : Hp) (vs : List V) (Q : VK) (E : XK), (A.deeper (envOfC qual scope s.heap.objs.size f cd)).guards = some [] → Room k (A.deeper (envOfC qual scope s.heap.objs.size f cd)) → sp vs H Q E →
      ∃ t, PSs (cxOf X0 P w K mg base N qual scope f cd A fs s H E) bd t ∧ t { nx := fun _ G => Q .non G, rt := Q } (start N vs) H) : FnG P w K mg base X0 (k + 1) f fd ps sp := by
  obtain ⟨oc, od, dV, kV, doc, pm, an, cd, ct, sl, rfl, here, code, _, _⟩ := F.ex
  constructor
  · exact few
  intro A fs s H ar us vs Q E g room e0 bt rel pr
  have inK : K.In s.heap := e0.mod.kin.keeps fun b o q => (e0.bs b o q).1
  have free : s.heap.NoLimit := e0.mod.nolimit.keeps fun b o q => (e0.bs b o q).1
  have kinds : ∀ y ∈ ps.zip us, scope.names.lookup y.1 = some .local ∨ (scope.names.lookup y.1 = some .cell ∧ ((cellsFrom (s.heap.objs.size + 1) scope.names []).lookup y.1).isSome = true) := by
    rintro ⟨n, v⟩ hy
    have hn := S.par n (List.of_mem_zip hy).1
    exact hn.imp id fun q => ⟨q, PySem.W.cellsFrom_some _ _ _ (.inl q)⟩
  refine codeAny_call_function room.depth (inK _ _ here) rfl S.co S.gen rfl (PySem.W.codeRec_of inK code) (bt _ _ _ _ (wpAny_newFunctionEnv_cells S.kind kinds ?_))
  intro env he s1 st
  cases he
  refine ⟨free.keeps st.toInCall.keep, codeAny_func ?_⟩
  obtain ⟨t, ht, go⟩ := does cd A fs s H vs Q E g (room.deeper _) pr
  have I : Inv (cxOf X0 P w K mg base N qual scope f cd A fs s H E) [] (start N vs) H s1 := inv_start S room.hd e0 (few _ _ _ _ pr) rel st
  have out : ∀ {σ : L2.St} {G : Hp} {v : V} {u : Value} {s2 : Shared}, Inv (cxOf X0 P w K mg base N qual scope f cd A fs s H E) [] σ G s2 → RelV v u → Q v G → CE fs P w H s Q u s2 := by
    intro σ G v u s2 J r q
    exact ⟨v, G, J.os, J.bare, J.base, J.hok, r, q⟩
  apply wpAny_mono (ht.run [] s1 (start N vs) H _ I go)
  · intro fl s2 z
    match fl, z with
    | .ret u, z => obtain ⟨v, σ, G, J, r, q⟩ := z; exact out J r q
    | .next, z => obtain ⟨σ, G, J, q⟩ := z; exact out (u := Value.none) J (show RelV V.non Value.none from rfl) q
    | .brk, z => obtain ⟨_, _, _, q⟩ := z; exact q.elim
    | .cont, z => obtain ⟨_, _, _, q⟩ := z; exact q.elim
  · exact fun _ _ z => z
end
/-! calls -/
structure CalG (P : Program) (w : World) (K : PySem.W.Frag) (mg : Str → Option Value) (base : Heap) (X0 : CXT) (x : Str) (k : Nat) (ps : List Str) (sp : Sp) : Prop where
  ex : ∃ f fd, mg x = some (.ref f) ∧ PySem.W.keepIn K (.ref f) = true ∧ FnG P w K mg base X0 k f fd ps sp ∧ Binds K fd ps []
section
variable {X : Cx} {x : Str} {p pos : Pos} {e : Expr} {es : List Expr} {t : TA} {k : Nat} {ps : List Str} {sp : Sp}
theorem pe_calG (c : CalG X.prog X.w X.K X.mg X.base CX0 x k ps sp) (gd : X.A.guards = some []) (hr : Room k X.A) (ha : PA X (e :: es) t) (hg : Gl X x := by rfl) (hdb : (x == ("__debug__" : Str)) = false := by decide)
    (he : starEach (e :: es) X.env = (false, eval e X.env) :: starEach es X.env := by rfl) (hpl : (backTo pos (starEach es X.env)).any (·.1) = false := by rfl) :
    PE X (.Call (.Name x p) (e :: es) [] pos) (tCall sp [] E0 t) := by
  obtain ⟨f, fd, hm, hk, F, b⟩ := c.ex
  constructor
  intro pins s σ H Q I h
  refine wpAny_Call_Name_kw (ld_glob I hg hm (PySem.W.callWith_K (h₀ := X.base) I.ok.mod.kin hk (thn (ha.run pos pins s σ H _ I h) ?_) he hpl) hdb)
  rintro us s1 ⟨vs, H1, I1, r, q⟩
  rw [List.append_nil] at q
  have n1 : us.length = ps.length := by rw [← r.length]; exact F.few _ _ _ _ q
  have b1 := b s1 us I1.kIn (by rw [List.append_nil]; exact n1)
  rw [List.append_nil] at b1
  refine ⟨I1.kIn, wpAny_call (codeAny_mono (F.goes X.A X.stack s1 H1 ⟨us, []⟩ us vs Q E0 gd hr I1.env0 b1 r q) ?_)⟩
  intro rr s2 z
  match rr, z with
  | .error e, z => exact z.elim
  | .ok (.ret u), z => exact I1.after z
  | .ok .next, z => exact z.elim
  | .ok .brk, z => exact z.elim
  | .ok .cont, z => exact z.elim
end
end Lg

set_option Elab.async false
set_option linter.all false
set_option maxRecDepth 100000
set_option maxHeartbeats 4000000
namespace Lg
open PySem PySem.Spec PyProof.Rows L2
/-- what a law's call comes to -/
abbrev Yes (s₁ : Shared) : Result → Shared → Prop := fun r s' => r = .ok (.ret (.bool true)) ∧ OldK s₁.heap s'.heap ∧ s'.os = s₁.os ∧ AllBare s'.gens
section
variable {P : Program} {w : World} {K : PySem.W.Frag} {mg mb : Str → Option Value} {X0 : CXT} {k : Nat} {fa a : Addr} {fd : FuncData} {x : Str} {sp : Sp} {s₁ : Shared} {vs : List Value} {ns : List Int}
/-- from a heap in which at most the script is told -/
theorem law_from (inK : K.In s₁.heap) (gl : s₁.heap.Ns mainGlobals mg) (bl : s₁.heap.Ns builtinsNs mb) (same : ∀ x : Str, x ≠ "__name__" → mb x = bootBuiltins x) (free : s₁.heap.NoLimit) (none_ : s₁.gens = #[])
    (script : s₁.heap.get? a = some { cls := .type "list", data := .seq vs.toArray }) (room : Room k callerA) (F : ∀ B : Heap, K.In B → B.Ns mainGlobals mg → FnG P w K mg B X0 k fa fd [x] sp)
    (bt : ∀ (s : Shared) (u : Value), BindsTo s fd ⟨[u], []⟩ [(x, u)]) (no : ∀ H e s', X0 [] H s₁ (fun _ _ _ => False) e s' → False) (H : Hp) (only : Only H) (pr : sp [.ref a] H (fun v _ => v = .bl true) fun _ _ _ => False)
    (ok : HOk P w H s₁.heap) (told : ∀ b u, H b = some u → b = a) (out : ∀ u, H a = some u → K.lookup a = none) : codeAny (model P w) callerA (.call (.ref fa) ⟨[.ref a], []⟩) (Yes s₁) s₁ := by
  have low : ∀ {b : Addr} {o : Obj}, s₁.heap.get? b = some o → (∀ u, H b ≠ some u) → (hidT s₁.heap H).get? b = some o := by
    intro b o q n
    refine hidT_get q ?_
    match hb : H b with
    | none => rfl
    | some u => exact absurd hb (n u)
  have names : ∀ {b : Addr} {m : Str → Option Value}, s₁.heap.Ns b m → (hidT s₁.heap H).Ns b m := by
    rintro b m ⟨o, es, ep, q, d, r⟩
    refine ⟨o, es, ep, low q fun u z => ?_, d, r⟩
    cases told b u z
    rw [script] at q
    cases q
    exact absurd (show Data.seq vs.toArray _ = Data.dict es ep from d) (fun z => by cases z)
  have inB : K.In (hidT s₁.heap H) := fun b o q => low (inK b o q) fun u z => by
    cases told b u z
    rw [out u z] at q
    cases q
  have md : Mod K mg (hidT s₁.heap H) := by
    obtain ⟨mc, c1, c2⟩ := free
    exact ⟨inB, names gl, ⟨mb, names bl, same⟩, ⟨mc, names c1, c2⟩⟩
  have nil : ∀ b : Addr, b ∉ frs ([] : List Env) := fun b z => by cases z
  have e0 : Env0 P w K mg (hidT s₁.heap H) callerA [] s₁ H := ⟨rfl, md, fun b o q => of_hidT q, Nat.le_of_eq (hidT_size _ _), trivial, fun b z => absurd z (nil b), ok, .of_eq none_⟩
  apply codeAny_mono ((F _ inB (names gl)).goes callerA [] s₁ H ⟨[.ref a], []⟩ [.ref a] [.ref a] _ _ rfl room e0 (bt s₁ (.ref a)) (.cons rfl .nil) pr)
  intro r s' z
  match r, z with
  | .error e, z => exact (no H e s' z).elim
  | .ok .next, z => exact z.elim
  | .ok .brk, z => exact z.elim
  | .ok .cont, z => exact z.elim
  | .ok (.ret u), z =>
    obtain ⟨v, G, os, bare, un, ok2, r2, q⟩ := z
    cases (show v = .bl true from q)
    cases (show u = Value.bool true from r2)
    refine ⟨rfl, OldK.of_keep ?_, os, bare⟩
    intro b o hb
    rcases only b with n | ⟨ob, xs, y⟩
    · exact un.keep b o hb n (nil b) (fun z => by cases z)
    · have y1 := (ok b _ y).1
      have y2 := (ok2 b _ (un.frzs b ob _ y)).1
      rw [hb] at y1
      cases y1
      exact y2
theorem law_goes (inK : K.In s₁.heap) (gl : s₁.heap.Ns mainGlobals mg) (bl : s₁.heap.Ns builtinsNs mb) (same : ∀ x : Str, x ≠ "__name__" → mb x = bootBuiltins x) (free : s₁.heap.NoLimit) (none_ : s₁.gens = #[])
    (script : s₁.heap.get? a = some { cls := .type "list", data := .seq vs.toArray }) (whole : IntsAre vs ns) (few : ns.length ≤ sizeLine) (room : Room k callerA) (F : ∀ B : Heap, K.In B → B.Ns mainGlobals mg → FnG P w K mg B X0 k fa fd [x] sp)
    (bt : ∀ (s : Shared) (u : Value), BindsTo s fd ⟨[u], []⟩ [(x, u)]) (pr : ∀ H : Hp, Only H → SqL K H a (ns.map V.int) → sp [.ref a] H (fun v _ => v = .bl true) fun _ _ _ => False)
    (no : ∀ H e s', X0 [] H s₁ (fun _ _ _ => False) e s' → False) : codeAny (model P w) callerA (.call (.ref fa) ⟨[.ref a], []⟩) (Yes s₁) s₁ := by
  have rel := vals_ints whole
  have n := whole.length
  by_cases hk : K.lookup a = none
  · have at_a : ∀ b : Addr, b = a → (if b = a then some (HO.frz { cls := .type "list", data := .seq vs.toArray } (.lst (ns.map V.int))) else none) = some (.frz { cls := .type "list", data := .seq vs.toArray } (.lst (ns.map V.int))) := fun b e => if_pos e
    have off : ∀ b : Addr, b ≠ a → (if b = a then some (HO.frz { cls := .type "list", data := .seq vs.toArray } (.lst (ns.map V.int))) else none) = none := fun b e => if_neg e
    have only : Only fun b => if b = a then some (HO.frz { cls := .type "list", data := .seq vs.toArray } (.lst (ns.map V.int))) else none := fun b => by
      rcases Decidable.em (b = a) with e | e
      · exact .inr ⟨_, _, at_a b e⟩
      · exact .inl (off b e)
    refine law_from inK gl bl same free none_ script room F bt no _ only (pr _ only (.inl (.inr ⟨_, at_a a rfl⟩))) ?_ ?_ fun _ _ => hk
    · intro b u z
      try dsimp only at z
      rcases Decidable.em (b = a) with e | e
      · rw [at_a b e] at z
        cases z
        cases e
        exact ⟨script, by rw [List.length_map]; exact few, vs, _, rel, script⟩
      · rw [off b e] at z
        cases z
    · intro b u z
      try dsimp only at z
      rcases Decidable.em (b = a) with e | e
      · exact e
      · rw [off b e] at z
        cases z
  · obtain ⟨o, ho⟩ := Option.ne_none_iff_exists'.mp hk
    have q := inK a o ho
    rw [script] at q
    cases q
    have only : Only fun _ => none := fun _ => .inl rfl
    refine law_from inK gl bl same free none_ script room F bt no _ only (pr _ only (.inr ⟨_, vs.toArray, _, ho, rfl, rfl, rfl, ?_, ?_⟩)) ?_ ?_ ?_
    · rw [List.size_toArray, n]; exact few
    · simpa using rel
    · exact fun b u z => nomatch (show (none : Option HO) = some u from z)
    · exact fun b u z => nomatch (show (none : Option HO) = some u from z)
    · exact fun u z => nomatch (show (none : Option HO) = some u from z)
end
/-- the goal that is left of a law -/
theorem walk_G {l : PySem.W.OpenLaw} {n k : Nat} {q : Program} {loose : List Str} {XP : (Str → Option Value) → Heap → Prop} {YP : World → Heap → Prop} {d : DefRec} {X0 : CXT} {x : Str} (hn : l.most = some n) (hn2 : n ≤ sizeLine) (hdf : d.params.defaults = []) (room : Room k callerA)
    (F : ∀ (w : World) (mg : Str → Option Value) (fa : Addr) (h : Heap), YP w h → h.Ns mainGlobals mg → mg d.name = some (.ref fa) → ∃ (K : PySem.W.Frag) (fd : FuncData) (sp : Sp), K.In h ∧ (∀ (s : Shared) (u : Value), BindsTo s fd ⟨[u], []⟩ [(x, u)]) ∧
      (∀ (H : Hp) (a : Addr) (ns : List Int), ns.length ≤ n → Only H → SqL K H a (ns.map V.int) → sp [.ref a] H (fun v _ => v = .bl true) fun _ _ _ => False) ∧ ∀ B : Heap, K.In B → B.Ns mainGlobals mg → FnG l.prog w K mg B X0 k fa fd [x] sp)
    (no : ∀ (H : Hp) (s : Shared) (e : Value) (s' : Shared), X0 [] H s (fun _ _ _ => False) e s' → False) : PySem.W.WalkO q loose XP YP l.row.toRowW d [] (fun f vs => PySem.call f vs) := by
  apply Att.attach_call hn hdf
  intro w s₀ s₁ mg mb fa o pm cd doc a vs ns G Y ho hd hcd hmg hobj hints hlen hg
  obtain ⟨K, fd, sp, inK, bt, pr, go⟩ := F w mg fa _ Y G.T.g hmg
  exact law_goes inK G.T.g G.T.b G.T.builtins G.T.nolimit hg hobj hints (Nat.le_trans hlen hn2) room go bt (fun H o s => pr H a ns hlen o s) fun H e s' => no H s₁ e s'
end Lg

set_option Elab.async false
set_option linter.all false
set_option maxRecDepth 100000
set_option maxHeartbeats 4000000
namespace Lg
open PySem PySem.Spec PyProof.Rows L2
/-! values as data, dicts too -/
def kD : Key → PyData
  | .inl i => .int i
  | .inr z => .str z
mutual
inductive Da (H : Hp) : V → PyData → Prop where
  | non : Da H .non .none
  | bl (b : Bool) : Da H (.bl b) (.bool b)
  | int (i : Int) : Da H (.int i) (.int i)
  | str (z : Str) : Da H (.str z) (.str z)
  | lst {a : Addr} {xs : List V} {ds : List PyData} (h : H a = some (.lst xs)) (all : DaAll H xs ds) : Da H (.ref a) (.list ds)
  | tup {a : Addr} {xs : List V} {ds : List PyData} (h : H a = some (.tup xs)) (all : DaAll H xs ds) : Da H (.ref a) (.tuple ds)
  | dic {a : Addr} {kvs : List (Key × V)} {ds : List PyData} (h : H a = some (.dK kvs)) (all : DaAll H (kvs.map (·.2)) ds) : Da H (.ref a) (.dict ((kvs.map fun p => kD p.1).zip ds))
inductive DaAll (H : Hp) : List V → List PyData → Prop where
  | nil : DaAll H [] []
  | cons {v : V} {vs : List V} {d : PyData} {ds : List PyData} (h : Da H v d) (all : DaAll H vs ds) : DaAll H (v :: vs) (d :: ds)
end
mutual
theorem Da.same {H G : Hp} (s : Same H G) : ∀ {v : V} {d : PyData}, Da H v d → Da G v d
  | _, _, .non => .non
  | _, _, .bl b => .bl b
  | _, _, .int i => .int i
  | _, _, .str z => .str z
  | _, _, .lst h all => .lst (s _ _ h) (DaAll.same s all)
  | _, _, .tup h all => .tup (s _ _ h) (DaAll.same s all)
  | _, _, .dic h all => .dic (s _ _ h) (DaAll.same s all)
theorem DaAll.same {H G : Hp} (s : Same H G) : ∀ {vs : List V} {ds : List PyData}, DaAll H vs ds → DaAll G vs ds
  | _, _, .nil => .nil
  | _, _, .cons h all => .cons (Da.same s h) (DaAll.same s all)
end
theorem DaAll.length {H : Hp} : ∀ {vs : List V} {ds : List PyData}, DaAll H vs ds → vs.length = ds.length
  | _, _, .nil => rfl
  | _, _, .cons _ all => by rw [List.length_cons, List.length_cons, DaAll.length all]
/-- the interpreter's own table of modules stands in K -/
def SysIn (K : PySem.W.Frag) : Prop := ∃ o, K.lookup sysModules = some o ∧ o.cls = .type "dict"
section
variable {X : Cx} {pins : List (Addr × Obj)} {σ : L2.St} {H : Hp} {s : Shared}
theorem key_reads {h : Heap} {k : Key} {u : Value} (e : (mixKind X.prog X.w).is k u = true) : Reads h u (kD k) [] := by
  rcases keyIs_shape e with ⟨i, t, rfl, rfl⟩ | ⟨z, t, rfl, rfl⟩
  · exact Reads.int i t
  · exact Reads.str z t
theorem ne_sys (I : Inv X pins σ H s) (y : SysIn X.K) {a : Addr} {o : Obj} (h : s.heap.get? a = some o) (c : o.cls ≠ .type "dict") : sysModules ≠ a := by
  rintro rfl
  obtain ⟨u, hu, cu⟩ := y
  have q := I.kIn _ _ hu
  rw [h] at q
  cases q
  exact c cu
theorem keys_read {h : Heap} : ∀ {es : List DictEntry} {kvs : List (Key × Value)}, Pairs (mixKind X.prog X.w) es kvs → ReadsAll h (es.map (·.key)) (kvs.map fun p => kD p.1) [] ∧ es.map (·.val) = kvs.map (·.2)
  | _, _, .nil => ⟨.nil, rfl⟩
  | _, _, .cons k v r => by
    obtain ⟨r1, r2⟩ := keys_read (h := h) r
    exact ⟨ReadsAll.cons (key_reads k) r1, by rw [List.map_cons, List.map_cons, r2, v]⟩
theorem kv_split : ∀ {kvs : List (Key × V)} {vs : List (Key × Value)}, KV kvs vs → vs.map (fun p => kD p.1) = kvs.map (fun p => kD p.1) ∧ Vals (kvs.map (·.2)) (vs.map (·.2))
  | _, _, .nil => ⟨rfl, .nil⟩
  | _, _, .cons h r => by
    obtain ⟨r1, r2⟩ := kv_split r
    exact ⟨by rw [List.map_cons, List.map_cons, r1, h.1], .cons h.2 r2⟩
theorem zip_fst : ∀ {as bs : List PyData}, as.length = bs.length → (as.zip bs).map (·.1) = as ∧ (as.zip bs).map (·.2) = bs
  | [], [], _ => ⟨rfl, rfl⟩
  | a :: as, b :: bs, h => by
    obtain ⟨r1, r2⟩ := zip_fst (as := as) (bs := bs) (by simpa using h)
    exact ⟨by rw [List.zip_cons_cons, List.map_cons, r1], by rw [List.zip_cons_cons, List.map_cons, r2]⟩
mutual
theorem Da.reads (I : Inv X pins σ H s) (y : SysIn X.K) : ∀ {v : V} {d : PyData} {u : Value}, Da H v d → RelV v u → ∃ as, Reads s.heap u d as ∧ sysModules ∉ as
  | _, _, u, .non, r => by cases (show u = Value.none from r); exact ⟨_, Reads.none, List.not_mem_nil⟩
  | _, _, u, .bl b, r => by cases (show u = Value.bool b from r); exact ⟨_, Reads.bool b, List.not_mem_nil⟩
  | _, _, u, .int i, r => by obtain ⟨t, e⟩ := (show ∃ t, u = Value.int i t from r); cases e; exact ⟨_, Reads.int i t, List.not_mem_nil⟩
  | _, _, u, .str z, r => by obtain ⟨t, e⟩ := (show ∃ t, u = Value.str z t from r); cases e; exact ⟨_, Reads.str z t, List.not_mem_nil⟩
  | _, _, u, .lst (a := a) (xs := xs) h all, r => by
    cases (show u = Value.ref a from r)
    obtain ⟨_, its, n, rv, ho⟩ := (show ObjOk X.prog X.w H s.heap a (.lst xs) from I.hok a _ h)
    obtain ⟨as, q, n1⟩ := DaAll.reads I y all rv
    refine ⟨_, Reads.list ho rfl rfl (by simpa using q), ?_⟩
    rintro (_ | _)
    · exact ne_sys I y ho (by simp) rfl
    · rename_i z; exact n1 z
  | _, _, u, .tup (a := a) (xs := xs) h all, r => by
    cases (show u = Value.ref a from r)
    obtain ⟨_, its, rv, o, ho, hc, n, hd⟩ := (show ObjOk X.prog X.w H s.heap a (.tup xs) from I.hok a _ h)
    obtain ⟨as, q, n1⟩ := DaAll.reads I y all rv
    exact ⟨_, Reads.tuple ho hc hd (by simpa using q), n1⟩
  | _, _, u, .dic (a := a) (kvs := kvs) (ds := ds) h all, r => by
    cases (show u = Value.ref a from r)
    obtain ⟨_, ns, vs, kv, o, es, ep, ho, hx, hd, _, ps, _⟩ := (show ObjOk X.prog X.w H s.heap a (.dK kvs) from I.hok a _ h)
    obtain ⟨k1, k2⟩ := keys_read (h := s.heap) ps
    obtain ⟨k3, k4⟩ := kv_split kv
    obtain ⟨as, q, n1⟩ := DaAll.reads I y all k4
    have ln : (kvs.map fun p => kD p.1).length = ds.length := by rw [List.length_map, ← all.length, List.length_map]
    obtain ⟨z1, z2⟩ := zip_fst ln
    refine ⟨_, Reads.dict ho hx.1 hd (as := []) (by rw [z1, ← k3]; exact k1) (by rw [z2, k2]; exact q), ?_⟩
    rintro (_ | _)
    · exact absurd ns (by simp)
    · rename_i z; exact n1 z
theorem DaAll.reads (I : Inv X pins σ H s) (y : SysIn X.K) : ∀ {vs : List V} {ds : List PyData} {us : List Value}, DaAll H vs ds → Vals vs us → ∃ as, ReadsAll s.heap us ds as ∧ sysModules ∉ as
  | _, _, _, .nil, .nil => ⟨_, ReadsAll.nil, List.not_mem_nil⟩
  | _, _, _, .cons h all, .cons r rs => by
    obtain ⟨as, q1, n1⟩ := Da.reads I y h r
    obtain ⟨bs, q2, n2⟩ := DaAll.reads I y all rs
    exact ⟨_, ReadsAll.cons q1 q2, fun z => (List.mem_append.mp z).elim n1 n2⟩
end
/-- repr of data -/
def rRepr : List V → Hp → VK → Prop := fun xs H Q => ∃ (v : V) (d : PyData), xs = [v] ∧ Da H v d ∧ d.showable = true ∧ d.depth ≤ 16 ∧ d.shown.length ≤ sizeLine ∧ Q (.str d.shown) H
theorem call_repr (y : SysIn X.K) (g : X.A.guards = some []) (room : X.A.units + 200 < cLine) : CallR X (.builtin "repr") rRepr := by
  intro pins s σ H xs us Q I r h
  obtain ⟨v, d, rfl, hd, hs, dp, sz, q⟩ := h
  obtain ⟨u, rfl, rv⟩ := vals1 r
  obtain ⟨as, rd, nm⟩ := Da.reads I y hd rv
  have big : ∀ b : Addr, u = .ref b → wpAny (model X.prog X.w) X.A (call (.builtin "repr") [u]) (EP X pins σ Q) X.xe s := by
    rintro b rfl
    exact PySem.repr_of_reads' rd hs (fun _ => nm) g (by omega) (fun _ _ e => e) (fun h' t tk kept => ⟨.str _, H, I.kept kept, ⟨t, rfl⟩, q⟩) sz
  cases hd with
  | non => cases (show u = Value.none from rv); exact PySem.P.repr_of_none ⟨.str "None", H, I.tok _, ⟨_, rfl⟩, q⟩
  | bl b => cases (show u = Value.bool b from rv); exact PySem.P.repr_of_bool ⟨.str _, H, I.tok _, ⟨_, rfl⟩, q⟩
  | int i => obtain ⟨t, e⟩ := (show ∃ t, u = Value.int i t from rv); cases e; exact PySem.P.repr_of_int (of_decide_eq_true hs) ⟨.str _, H, I.tok _, ⟨_, rfl⟩, q⟩
  | str z => obtain ⟨t, e⟩ := (show ∃ t, u = Value.str z t from rv); cases e; exact PySem.P.repr_of_str ⟨.str _, H, I.tok _, ⟨_, rfl⟩, q⟩ sz
  | lst h all => exact big _ rv
  | tup h all => exact big _ rv
  | dic h all => exact big _ rv
end
end Lg

set_option Elab.async false
set_option linter.all false
set_option maxRecDepth 100000
set_option maxHeartbeats 0
namespace Hb
open PySem PySem.Spec PyProof.Rows L2
/-! a Hook: facts, defs wherever they stand, one Bool more; the table of modules is seen too -/
abbrev Al : Type := He.AlD × Bool
def asB (g : Addr → Option Obj) (n : Nat) : List Addr := He5.asA g n ++ [sysModules]
def obG (n : Nat) (fa : List He.Fa) (fn : List He5.DefA) (own : PySem.W.Frag → Bool) (g : Addr → Option Obj) : Al := (He5.obsA fa fn (He.frG g (asB g n)), own (He.frG g (asB g n)))
def Says (fa : List He.Fa) (fn : List He5.DefA) (own : PySem.W.Frag → Bool) (K : PySem.W.Frag) : Prop := He5.SaysA fa fn K ∧ own K = true
def hook (n : Nat) (fa : List He.Fa) (fn : List He5.DefA) (own : PySem.W.Frag → Bool) : PySem.W.Hook where
  α := Al
  obs := fun s => obG n fa fn own s.heap.get?
  val := fun _ => (He5.valA fn, true)
  says := fun _ h => ∃ K : PySem.W.Frag, K.In h ∧ Says fa fn own K
  of := fun _ _ e => ⟨_, He.frG_in, congrArg Prod.fst e, congrArg Prod.snd e⟩
  keeps := fun _ _ _ ⟨K, hK, c⟩ k => ⟨K, PySem.W.Frag.In.keeps hK k, c⟩
theorem obG_eq {n : Nat} {fa : List He.Fa} {fn : List He5.DefA} {own : PySem.W.Frag → Bool} {g : Addr → Option Obj} {s : Shared} (h : ∀ a, g a = s.heap.get? a) : obG n fa fn own g = (hook n fa fn own).obs s := by
  rw [show g = s.heap.get? from funext h] <;> rfl
theorem Says.fact {fa : List He.Fa} {fn : List He5.DefA} {own : PySem.W.Frag → Bool} {K : PySem.W.Frag} (c : Says fa fn own K) {f : He.Fa} (hf : f ∈ fa) : f.ok K = true := by
  obtain ⟨i, hi⟩ := List.getElem?_of_mem hf
  exact c.1.fact i hi
/-- a class's constants -/
def cvS (K : PySem.W.Frag) (C : Addr) (f z : Str) : Bool := match PySem.W.findCls K (.ref C) (.type "type") f with
  | some (.val (.str y _)) => decide (y = z)
  | _ => false
def cvI (K : PySem.W.Frag) (C : Addr) (f : Str) (i : Int) : Bool := match PySem.W.findCls K (.ref C) (.type "type") f with
  | some (.val (.int y _)) => decide (y = i)
  | _ => false
theorem cvS_ok {K : PySem.W.Frag} {C : Addr} {f z : Str} (h : cvS K C f z = true) : ∃ u, ClX.CVal K C (.type "type") f (.str z) u := by
  unfold cvS at h
  split at h
  · rename_i y t e
    exact ⟨_, e, t, by rw [of_decide_eq_true h]⟩
  · cases h
theorem cvI_ok {K : PySem.W.Frag} {C : Addr} {f : Str} {i : Int} (h : cvI K C f i = true) : ∃ u, ClX.CVal K C (.type "type") f (.int i) u := by
  unfold cvI at h
  split at h
  · rename_i y t e
    exact ⟨_, e, t, by rw [of_decide_eq_true h]⟩
  · cases h
def crB (K : PySem.W.Frag) (C : Addr) : Bool := PySem.W.readsIn K C (.type "type") && He.eqO (PySem.W.specialIn K (.ref C) "__getattribute__") (some (some (.builtin "type.__getattribute__")))
theorem crB_ok {K : PySem.W.Frag} {C : Addr} (h : crB K C = true) : ClX.CRead K C (.type "type") := ⟨(He.ba h).1, He.eqO_ok (He.ba h).2⟩
def sysB (K : PySem.W.Frag) : Bool := match K.lookup sysModules with
  | some o => decide (o.cls = .type "dict")
  | none => false
theorem sysB_ok {K : PySem.W.Frag} (h : sysB K = true) : Lg.SysIn K := by
  unfold sysB at h
  split at h
  · rename_i o e
    exact ⟨o, e, of_decide_eq_true h⟩
  · cases h
end Hb

set_option Elab.async false
set_option linter.all false
set_option maxRecDepth 100000
set_option maxHeartbeats 0
namespace Hd2
open PySem PySem.Spec PyProof.Rows L2
/-! a Hook: facts, defs wherever they stand, written dicts, one Bool more; the table of modules is seen -/
abbrev Tb : Type := List (Option (List (Option (PySem.Str × Int))))
abbrev Al : Type := He.AlD × (Tb × Bool)
def tbs (ts : List He.Tab) (K : PySem.W.Frag) : Tb := ts.map fun t => He.dicW K (t.1 K)
def tbv (ts : List He.Tab) (w : World) : Tb := ts.map fun t => some (He.keysIn w.params t.2)
def obG (n : Nat) (fa : List He.Fa) (fn : List He5.DefA) (ts : List He.Tab) (own : PySem.W.Frag → Bool) (g : Addr → Option Obj) : Al :=
  (He5.obsA fa fn (He.frG g (Hb.asB g n)), (tbs ts (He.frG g (Hb.asB g n)), own (He.frG g (Hb.asB g n))))
def Says (fa : List He.Fa) (fn : List He5.DefA) (ts : List He.Tab) (own : PySem.W.Frag → Bool) (w : World) (K : PySem.W.Frag) : Prop := He5.SaysA fa fn K ∧ (tbs ts K = tbv ts w ∧ own K = true)
theorem says_of {n : Nat} {fa : List He.Fa} {fn : List He5.DefA} {ts : List He.Tab} {own : PySem.W.Frag → Bool} {w : World} {g : Addr → Option Obj} (e : obG n fa fn ts own g = (He5.valA fn, (tbv ts w, true))) : Says fa fn ts own w (He.frG g (Hb.asB g n)) :=
  ⟨congrArg Prod.fst e, congrArg Prod.fst (congrArg Prod.snd e), congrArg Prod.snd (congrArg Prod.snd e)⟩
def hook (n : Nat) (fa : List He.Fa) (fn : List He5.DefA) (ts : List He.Tab) (own : PySem.W.Frag → Bool) : PySem.W.Hook where
  α := Al
  obs := fun s => obG n fa fn ts own s.heap.get?
  val := fun w => (He5.valA fn, (tbv ts w, true))
  says := fun w h => ∃ K : PySem.W.Frag, K.In h ∧ Says fa fn ts own w K
  of := fun _ _ e => ⟨_, He.frG_in, says_of e⟩
  keeps := fun _ _ _ ⟨K, hK, c⟩ k => ⟨K, PySem.W.Frag.In.keeps hK k, c⟩
theorem obG_eq {n : Nat} {fa : List He.Fa} {fn : List He5.DefA} {ts : List He.Tab} {own : PySem.W.Frag → Bool} {g : Addr → Option Obj} {s : Shared} (h : ∀ a, g a = s.heap.get? a) : obG n fa fn ts own g = (hook n fa fn ts own).obs s := by
  rw [show g = s.heap.get? from funext h] <;> rfl
section
variable {fa : List He.Fa} {fn : List He5.DefA} {ts : List He.Tab} {own : PySem.W.Frag → Bool} {w : World} {K : PySem.W.Frag}
theorem Says.fact (c : Says fa fn ts own w K) {f : He.Fa} (hf : f ∈ fa) : f.ok K = true := by
  obtain ⟨i, hi⟩ := List.getElem?_of_mem hf
  exact c.1.fact i hi
theorem Says.tab (c : Says fa fn ts own w K) (i : Nat) {t : He.Tab} (h : ts[i]? = some t := by rfl) : ∃ es n, KDict K w (t.1 K) es n := by
  have e := congrArg (fun l : Tb => l[i]?) c.2.1
  simp only [tbs, tbv, List.getElem?_map, h] at e
  exact He.dicW_ok (Option.some.inj e)
end
end Hd2

set_option Elab.async false
set_option linter.all false
set_option maxRecDepth 100000
set_option maxHeartbeats 2000000
namespace Lm
open PySem PySem.Spec PyProof.Rows L2
/-! a lambda's error is caught where the slots' number is known -/
theorem takes_len {X : Cx} {W : WX} (tk : L2.Takes X W) : L2.Takes X (fun c d σ H => σ.length = X.N.length → W c d σ H) := fun u s' x => by
  obtain ⟨a, B, sI, pins, σ, H, cls, d, e, I, nb, up, sky, na, os, ag, q⟩ := x
  exact tk u s' ⟨a, B, sI, pins, σ, H, cls, d, e, I, nb, up, sky, na, os, ag, q I.len⟩
/-- an error made with the context None is an error made -/
theorem pmk_c {X : Cx} {e : Expr} {t : L2.St → Hp → XK → Prop} (h : L2N.PMk X e t) : L2.PMk X e t := fun pins s σ H Q I q => by
  refine wpAny_mono (h pins s σ H Q I q) (fun u s' z => ?_) (fun _ _ z => z)
  obtain ⟨a, oe, vs, sI, H', cls, d, e1, J, k, n1, n2, zn, r⟩ := z
  exact ⟨a, oe, vs, sI, H', cls, d, e1, J, k, n1, n2, zn.zc, r⟩
/-- a def's body, its code object told -/
theorem okC {CX : CXT} {P : Program} {w : World} {K : PySem.W.Frag} {mg : Str → Option Value} {base : Heap} {k : Nat} {p : He.Defn} {x qual : Str} {params : Arguments} {bd : List Stmt} {scope : Scope} {dvs : List V} {kws : List (Str × V)} {fd : FuncData} {N ps : List Str} {sp : Sp}
    (F : FunD K x qual params bd scope dvs kws (He.fAd K p) fd) (S : FnScope N ps scope) (few : ∀ vs H Q E, sp vs H Q E → vs.length = ps.length)
    (does : ∀ (cd : Value) (A : Around) (fs : List Env) (s : Shared) (H : Hp) (vs : List V) (Q : VK) (E : XK), cd = .ref (He.cT K p).1 → Room k (A.deeper (envOfC qual scope s.heap.objs.size (He.fAd K p) cd)) → sp vs H Q E →
      ∃ t, PSs (cxOf CX P w K mg base N qual scope (He.fAd K p) cd A fs s H E) bd t ∧ t { nx := fun _ G => Q .non G, rt := Q } (start N vs) H) : FnOk P w K mg base CX (k + 1) (He.fAd K p) fd ps sp := by
  obtain ⟨oc, od, dV, kV, doc, pm, an, cd, ct, sl, rfl, here, code, _, _⟩ := F.ex
  obtain ⟨c, rfl⟩ := He.codeIn_ref code
  exact fn_of here code S few fun A fs s H vs Q E room pr => does _ A fs s H vs Q E (congrArg Value.ref (He.codeOf_eq here rfl).symm) room pr
/-! tables of code objects are kept -/
theorem tabs_keep {T : List (Addr × Str)} {H G : Hp} {a : Addr} {o : HO} (ha : H a = some o) (no : ∀ ps, o ≠ .tbl ps) (nc : ∀ q, o ≠ LamX.CodeO a q) (k : Lw.Keep a H G) (t : LamX.Tabs T H) : LamX.Tabs T G := fun p hp => by
  obtain ⟨ps, h1, h2, h3⟩ := t p hp
  have n1 : p.1 ≠ a := fun z => by
    rw [z, ha] at h1
    exact no ps (Option.some.inj h1)
  refine ⟨ps, k _ _ n1 h1, h2, fun pos cv hc => ?_⟩
  obtain ⟨c, e, hco⟩ := h3 pos cv hc
  refine ⟨c, e, k _ _ (fun z => ?_) hco⟩
  subst z
  rw [ha] at hco
  exact nc _ (Option.some.inj hco)
theorem tabs_same {T : List (Addr × Str)} {H G : Hp} (s : Same H G) (t : LamX.Tabs T H) : LamX.Tabs T G := LamX.Tabs.ext t fun b o => s b o
end Lm
namespace Hd4
open PySem PySem.Spec PyProof.Rows L2
/-! a Hook as Hd2's; some defs' code objects and their empty tables are told too -/
abbrev Al : Type := He.AlD × (Hd2.Tb × Bool)
def obG (n : Nat) (fa : List He.Fa) (fn : List He5.DefA) (ts : List He.Tab) (tf : List He.Defn) (own : PySem.W.Frag → Bool) (g : Addr → Option Obj) : Al :=
  (He5.obsA fa fn (He.frT g (Hb.asB g n)), (Hd2.tbs ts (He.frT g (Hb.asB g n)), own (He.frT g (Hb.asB g n)) && He.tabsB g tf (He.frT g (Hb.asB g n))))
structure Says (fa : List He.Fa) (fn : List He5.DefA) (ts : List He.Tab) (tf : List He.Defn) (own : PySem.W.Frag → Bool) (w : World) (h : Heap) (K : PySem.W.Frag) : Prop where
  t : Hd2.Says fa fn ts own w K
  hd : ∀ p ∈ tf, PySem.W.codeHdIn K (He.cT K p).1 (He.cT K p).2 = true
  out : ∀ p ∈ tf, K.lookup (He.cT K p).2 = none
  empty : ∀ p ∈ tf, h.get? (He.cT K p).2 = some { cls := .none, data := .fields #[] }
theorem says_of {n : Nat} {fa : List He.Fa} {fn : List He5.DefA} {ts : List He.Tab} {tf : List He.Defn} {own : PySem.W.Frag → Bool} {w : World} {h : Heap} (e : obG n fa fn ts tf own h.get? = (He5.valA fn, (Hd2.tbv ts w, true))) : Says fa fn ts tf own w h (He.frT h.get? (Hb.asB h.get? n)) := by
  have e2 : (own (He.frT h.get? (Hb.asB h.get? n)) && He.tabsB h.get? tf (He.frT h.get? (Hb.asB h.get? n))) = true := congrArg Prod.snd (congrArg Prod.snd e)
  obtain ⟨o1, o2⟩ := He.ba e2
  have each : ∀ p ∈ tf, PySem.W.codeHdIn (He.frT h.get? (Hb.asB h.get? n)) (He.cT (He.frT h.get? (Hb.asB h.get? n)) p).1 (He.cT (He.frT h.get? (Hb.asB h.get? n)) p).2 = true ∧ ∃ o, h.get? (He.cT (He.frT h.get? (Hb.asB h.get? n)) p).2 = some o ∧ He.emptyTab o = true := fun p hp => by
    obtain ⟨z1, z2⟩ := He.ba (List.all_eq_true.mp o2 p hp)
    refine ⟨z1, ?_⟩
    split at z2
    · rename_i o ho
      exact ⟨o, ho, z2⟩
    · cases z2
  refine ⟨⟨congrArg Prod.fst e, congrArg Prod.fst (congrArg Prod.snd e), o1⟩, fun p hp => (each p hp).1, fun p hp => ?_, fun p hp => ?_⟩
  · obtain ⟨_, o, ho, z⟩ := each p hp
    exact He.frT_none ho z
  · obtain ⟨_, o, ho, z⟩ := each p hp
    rw [ho, He.emptyTab_eq z]
def hook (n : Nat) (fa : List He.Fa) (fn : List He5.DefA) (ts : List He.Tab) (tf : List He.Defn) (own : PySem.W.Frag → Bool) : PySem.W.Hook where
  α := Al
  obs := fun s => obG n fa fn ts tf own s.heap.get?
  val := fun w => (He5.valA fn, (Hd2.tbv ts w, true))
  says := fun w h => ∃ K : PySem.W.Frag, K.In h ∧ Says fa fn ts tf own w h K
  of := fun _ _ e => ⟨_, He.frT_in, says_of e⟩
  keeps := fun _ _ _ ⟨K, hK, c⟩ k => ⟨K, PySem.W.Frag.In.keeps hK k, c.t, c.hd, c.out, fun p hp => k _ _ (c.empty p hp)⟩
theorem obG_eq {n : Nat} {fa : List He.Fa} {fn : List He5.DefA} {ts : List He.Tab} {tf : List He.Defn} {own : PySem.W.Frag → Bool} {g : Addr → Option Obj} {s : Shared} (h : ∀ a, g a = s.heap.get? a) : obG n fa fn ts tf own g = (hook n fa fn ts tf own).obs s := by
  rw [show g = s.heap.get? from funext h] <;> rfl
end Hd4

set_option Elab.async false
set_option linter.all false
set_option maxRecDepth 100000
set_option maxHeartbeats 40000000
namespace Lw
open PySem PySem.Spec PyProof.Rows L2
abbrev sBhI : Stmt := inClass (top 4) 0
abbrev sHabI : Stmt := inClass (top 7) 0
section
variable {P : Program} {w : World} {K : PySem.W.Frag} {mg : Str → Option Value} {base : Heap}
/-! BadHabit(habit) -/
theorem plain_str {H : Hp} (z : Str) : Plain3 K H (.str z) := ⟨⟨_, ty_str z, kit_ty (by decide +kernel)⟩, ⟨_, ty_str z, kit_ty (by decide +kernel)⟩, ⟨_, ty_str z, kit_ty (by decide +kernel)⟩⟩
abbrev habF (z : Str) : List (Str × V) := [("habit", .str z)]
def spBhI (C : Addr) : Sp := fun vs H Q _ => ∃ (a : Addr) (z : Str), vs = [.ref a, .str z] ∧ H a = some (exo a C none) ∧ ∀ (d : Addr) (G : Hp), H d = none → d ≠ a → Keep a H G → G a = some (exo a C (some d)) → G d = some (exd d (habF z)) → Q .non G
structure TxtBh (K : PySem.W.Frag) (mg : Str → Option Value) (C : Addr) (newId : String) : Prop where
  oex : Ge.OexT K C Ge.vlTail newId
  nH : PySem.W.findIn K (.ref C) "habit" = some none
  gB : mg "BadHabit" = some (.ref C)
theorem scBhI : FnScope ["self", "habit"] ["self", "habit"] (defScope sBhI) := ⟨rfl, rfl, rfl, by decide +kernel, rfl, by decide +kernel, by decide +kernel⟩
theorem ok_bhI {C f : Addr} {fd : FuncData} {newId : String} (F : MethD K "__init__" "BadHabit.__init__" sBhI f fd) (T : TxtBh K mg C newId) (cC : Cal P w K mg base CX0 "copied" 1 ["value"] (spCopF K)) : FnOk P w K mg base CX0 2 f fd ["self", "habit"] (spBhI C) := by
  refine F.ok scBhI (fun vs H Q E h => ?_) (fun cdv A outer s H vs Q E hr h => ?_)
  · obtain ⟨a, z, rfl, _⟩ := h
    rfl
  · obtain ⟨a, z, rfl, ha, k⟩ := h
    refine ⟨_, PSs.nox (pss_one (Ge.ps_ostT (pv 0) (pe_cal cC hr (pa_cons (pv 1) pa_nil)))), ?_⟩
    refine ⟨_, rfl, _, rfl, plain_str z, ?_⟩
    refine ⟨_, rfl, a, C, _, _, rfl, T.oex, T.nH, ha, fun d nd da => ?_⟩
    refine k d _ nd da (fun b o n e => ?_) upd_same ?_
    · rw [upd_ne n, upd_ne (ne_of_none e nd)]
      exact e
    · rw [upd_ne da]
      exact upd_same
structure BhT (P : Program) (w : World) (K : PySem.W.Frag) (mg : Str → Option Value) (base : Heap) (C : Addr) : Prop where
  ex : ∃ newId f fd, TxtBh K mg C newId ∧ ExcBaseFacts "ValueError" newId "ValueError.__init__" Ge.vlTail ∧ PySem.W.findIn K (.ref C) "__init__" = some (some (.ref f)) ∧ PySem.W.typeIn K (.ref f) = some (.type "function") ∧ FnOk P w K mg base CX0 2 f fd ["self", "habit"] (spBhI C) ∧ Binds K fd ["self", "habit"] []
end
section
variable {X : Cx} {C : Addr} {e1 : Expr} {t : TA} {p pos pos2 : Pos} {W : WX}
theorem ps_badhab (B : BhT X.prog X.w X.K X.mg X.base C) (hc : X.calm = true) (hr : Room 3 X.A) (tk : L2.Takes X W) (ha : PA X [e1] t) (hg : Gl X "BadHabit" := by rfl)
    (he : starEach [e1] X.env = (false, eval e1 X.env) :: starEach [] X.env := by rfl) (hpl : (backTo pos (starEach [] X.env)).any (·.1) = false := by rfl) :
    PS X (.Raise (some (.Call (.Name "BadHabit" p) [e1] [] pos)) none pos2) (fun _ σ H => tMkO C (spBhI C) [] t σ H fun cls d H' => W cls d σ H') := by
  obtain ⟨newId, f, fd, T, B2, h1, h2, F, b⟩ := B.ex
  exact L2.ps_raise hc tk (Lm.pmk_c (Ge.pmk_T B2 T.oex h1 h2 F hr b .nil pass0 T.gB ha hg (by decide) he hpl))
end
theorem badhab_tail {C : Addr} {z : Str} {H : Hp} {E : XK}
    (k : ∀ d G, H d = none → Same H G → G d = some (.xd (habF z)) → E (.ref C) (some d) G) :
    ([.str z] : List V).length ≤ 1000 ∧ ∀ a, H a = none → spBhI C (.ref a :: ([.str z] ++ [])) (upd H a (exo a C none)) (fun v H2 => v = .non ∧ ∃ (d : Addr) (fs : List (Str × V)), H2 a = some (exo a C (some d)) ∧ H2 d = some (exd d fs) ∧ H d = none ∧ E (.ref C) (some d) (upd (del H2 a) d (.xd fs))) (fun _ _ _ => False) := by
  refine ⟨by show 1 ≤ 1000; decide, fun a na => ?_⟩
  have s0 := Lw.Same.new (o := exo a C none) (Same.refl H) na
  refine ⟨a, z, rfl, upd_same, fun d G nd da kG ga gd => ⟨rfl, d, habF z, ga, gd, ?_, ?_⟩⟩
  · rw [upd_ne da] at nd
    exact nd
  · rw [upd_ne da] at nd
    refine k d _ nd (fun b o2 e => ?_) upd_same
    have ba := ne_of_none e na
    rw [upd_ne (ne_of_none e nd), del_ne ba]
    exact kG b o2 ba (s0 _ _ e)
section
variable {P : Program} {w : World} {K : PySem.W.Frag} {mg : Str → Option Value} {base : Heap}
/-! habits made of any values -/
def HabAtV (CH : Addr) (H : Hp) (h : Addr) (y : Hv) : Prop := ∃ dx, H h = some (.ins CH dx [("present", y.pr), ("lacking", y.la), ("gone", y.go), ("shared", y.sh)])
structure TxtHb (K : PySem.W.Frag) (CH : Addr) : Prop where
  cl : Cls K CH
  n1 : NoAttr K CH "present"
  n2 : NoAttr K CH "lacking"
  n3 : NoAttr K CH "gone"
  n4 : NoAttr K CH "shared"
def spHabV (CH CB : Addr) : Sp := fun vs H Q E => ∃ (p dx a : Addr) (y : Hv), vs = [.ref p, y.pr, y.la, y.go, y.sh] ∧ H p = some (.ins CH dx []) ∧ PlH a H y ∧ (∀ z r, wrongs y = z :: r → ∀ d G, H d = none → Same H G → G d = some (.xd (habF z)) → E (.ref CB) (some d) G) ∧
  (wrongs y = [] → ∀ G, Keep p H G → HabAtV CH G p y → Q .non G)
abbrev nHabI : List Str := ["self", "present", "lacking", "gone", "shared", "told", "habit"]
abbrev HabD (K : PySem.W.Frag) (f : Addr) (fd : FuncData) : Prop := FunD K "__init__" "Habits.__init__" (defArgs sHabI) (defBody sHabI) (defScope sHabI) [] [("present", .str "stop"), ("lacking", .str "stop"), ("gone", .str "stop"), ("shared", .str "one")] f fd
theorem scHabI : FnScope nHabI ["self", "present", "lacking", "gone", "shared"] (defScope sHabI) := ⟨rfl, rfl, rfl, by decide +kernel, rfl, by decide +kernel, by decide +kernel⟩
def toldV (y : Hv) : List (Key × V) := [(Sum.inr "present", y.pr), (Sum.inr "lacking", y.la), (Sum.inr "gone", y.go), (Sum.inr "shared", y.sh)]
theorem told_of (y : Hv) {z : Str} (h : z ∈ habNames) : valV (mergeK [] (toldV y)) (Sum.inr z) = some (y.of z) := by
  rcases List.mem_cons.mp h with rfl | h
  · rfl
  rcases List.mem_cons.mp h with rfl | h
  · rfl
  rcases List.mem_cons.mp h with rfl | h
  · rfl
  rcases List.mem_cons.mp h with rfl | h
  · rfl
  cases h
theorem vals_mem {z : Str} (h : z ∈ habNames) : (z, valsOf z) ∈ habVals := by
  rcases List.mem_cons.mp h with rfl | h
  · decide
  rcases List.mem_cons.mp h with rfl | h
  · decide
  rcases List.mem_cons.mp h with rfl | h
  · decide
  rcases List.mem_cons.mp h with rfl | h
  · decide
  cases h
theorem ok_habV {CH CB dV f : Addr} {fd : FuncData} (F : HabD K f fd) (T : TxtHb K CH) (B : BhT P w K mg base CB) (V4 : HabV K w mg dV) : FnOk P w K mg base (L2.CX P w) 4 f fd ["self", "present", "lacking", "gone", "shared"] (spHabV CH CB) := by
  refine F.ok scHabI (fun vs H Q E h => ?_) (fun cdv A outer s H vs Q E hr h => ?_)
  · obtain ⟨p, dx, a, y, rfl, _⟩ := h
    rfl
  · obtain ⟨p, dx, a, y, rfl, hp, py, kE, k⟩ := h
    have nd := scHabI.nd
    have hu := hu_of hr
    refine ⟨_, (pss_cons (ps_set (i := 5) nd rfl (Or.inl rfl) (pe_disp (pps_cons pe_str (pv 1) (pps_cons pe_str (pv 2) (pps_cons pe_str (pv 3) (pps_cons pe_str (pv 4) pps_nil)))) (by rfl) (by rfl) (fun z => by cases z) (by decide)))
      (pss_cons (ps_for (L2.passes_of rfl) rfl (Kd.pi_kd V4.ky (pe_glob (v := .ref dV) rfl V4.gV rfl)) (pg_name (i := 6) nd rfl (Or.inl rfl))
        (pss_one (ps_if (pt_cmpR (r := Iw.rInW K true) (by exact Iw.op_notInW hr.units) (pe_dget hu (pv 5) (pv 6) (fun _ _ => rfl)) (pe_ix (by exact ix_kdict) (pe_glob (v := .ref dV) rfl V4.gV rfl) (pv 6) (fun _ _ => rfl)) (by rfl)) (pss_one (ps_badhab B rfl hr (L2.takes_of rfl rfl rfl rfl) (pa_cons (pv 6) pa_nil))) pss_nil)))
      (pss_cons (ps_fld (pv 0) (pv 1) rfl) (pss_cons (ps_fld (pv 0) (pv 2) rfl) (pss_cons (ps_fld (pv 0) (pv 3) rfl) (pss_one (ps_fld (pv 0) (pv 4) rfl)))))))  , ?_⟩
    refine sq_set (fun x G => ∃ t, x = .ref t ∧ H t = none ∧ Same H G ∧ G t = some (.dK (mergeK [] (toldV y)))) (fun Q q => ?_) ?_
    · intro t nt
      refine ⟨_, rfl, _, rfl, _, rfl, _, rfl, upd_same, toldV y, rfl, (by show 4 ≤ 15; decide), q _ _ ⟨t, rfl, nt, same_at nt (Lw.Same.new (Same.refl H) nt), upd_same⟩⟩
    rintro _ G ⟨t, rfl, nt, sG, gt⟩
    refine ⟨rfl, ?_⟩
    refine for_it (Kd.walk_kd (zs := habNames)) (fun i σ G2 => G = G2 ∧ (∀ j x, j < i → habNames[j]? = some x → gd y x = true) ∧ ∃ v6 : Option V, σ = [some (.ref p), some y.pr, some y.la, some y.go, some y.sh, some (.ref t), v6]) ⟨rfl, fun j x h => absurd h (Nat.not_lt_zero _), _, rfl⟩ (fun _ _ _ _ _ => trivial) ?_ ?_
    · rintro i x σ G2 G3 hi ⟨rfl, bef, v6, rfl⟩ ⟨rfl, z, hz, rfl⟩
      have hm : z ∈ habNames := List.mem_of_getElem? hz
      obtain ⟨b, h1, h2⟩ := V4.at_ _ (vals_mem hm)
      refine ⟨_, rfl, _, rfl, t, y.of z, rfl, .inl ⟨_, Sum.inr z, .inl gt, rfl, (told_of y hm).symm⟩, _, rfl, dV, z, .ref b, rfl, rfl, h1, ?_⟩
      refine notIn_of ((py.same sG).of z) (.inr (h2 _)) ⟨_, rfl, ?_⟩
      cases hg : gdL (valsOf z) (y.of z) with
      | true =>
        refine itFb rfl ⟨rfl, fun j x hj hx => ?_, _, rfl⟩
        rcases Nat.lt_or_eq_of_le (Nat.le_of_lt_succ hj) with hj | rfl
        · exact bef j x hj hx
        · rw [hz] at hx
          cases hx
          exact hg
      | false =>
        refine itTb rfl ⟨_, rfl, badhab_tail fun d G4 nd s g => ?_⟩
        obtain ⟨r, e⟩ := wrongs_at hz bef hg
        exact kE z r e d G4 (none_of_same sG nd) (sG.trans s) g
    · rintro σ G2 ⟨rfl, bef, v6, rfl⟩
      have e0 : wrongs y = [] := wrongs_nil.mpr fun h hh => by
        obtain ⟨j, hj⟩ := List.getElem?_of_mem hh
        exact bef j h (List.getElem?_eq_some_iff.mp hj).1 hj
      have gp := sG _ _ hp
      refine ⟨_, rfl, _, rfl, p, CH, dx, _, rfl, gp, T.cl, T.n1, (by show 0 < 1000; decide), ?_⟩
      refine ⟨_, rfl, _, rfl, p, CH, dx, _, rfl, upd_same, T.cl, T.n2, (by show 1 < 1000; decide), ?_⟩
      refine ⟨_, rfl, _, rfl, p, CH, dx, _, rfl, upd_same, T.cl, T.n3, (by show 2 < 1000; decide), ?_⟩
      refine ⟨_, rfl, _, rfl, p, CH, dx, _, rfl, upd_same, T.cl, T.n4, (by show 3 < 1000; decide), ?_⟩
      refine k e0 _ (fun a o n e => ?_) ⟨dx, upd_same⟩
      rw [upd_ne n, upd_ne n, upd_ne n, upd_ne n]
      exact sG _ _ e
end
end Lw

set_option Elab.async false
set_option linter.all false
set_option maxRecDepth 100000
set_option maxHeartbeats 4000000
namespace Lw
open PySem PySem.Spec PyProof.Rows L2
/-! == and != of dicts of integers and None, with both answers; tuples of a text, an integer and such a dict -/
def eK (ks ls : List (Key × V)) (k : Key) : Bool := match valV ks k, valV ls k with
  | some x, some y => eqV x y
  | _, _ => false
def sameK (ks ls : List (Key × V)) : Bool := ks.length == ls.length && ks.all fun p => (valV ls p.1).isSome && eK ks ls p.1
theorem IntN.flatV {v : V} (h : IntN v) : L2.flatV v = true := by
  rcases h with ⟨i, rfl⟩ | rfl <;> rfl
theorem eqV_N {x y : V} (hx : IntN x) (hy : IntN y) : eqV x y = decide (x = y) := by
  rcases hx with ⟨i, rfl⟩ | rfl <;> rcases hy with ⟨j, rfl⟩ | rfl
  · by_cases e : i = j
    · subst e; simp [eqV]
    · rw [decide_eq_false fun h => e (V.int.inj h)]; simp [eqV, e]
  · rfl
  · rfl
  · rfl
def rEqDB (g : Bool → Bool) : R2 := fun x y H Q => ∃ a b ks ls, x = .ref a ∧ y = .ref b ∧ H a = some (.dK ks) ∧ H b = some (.dK ls) ∧ (ks.map (·.1)).Nodup ∧ (∀ p ∈ ks, IntN p.2) ∧ (∀ p ∈ ls, IntN p.2) ∧ Q (.bl (g (sameK ks ls))) H
theorem val_in {ls : List (Key × V)} {k : Key} {v : V} (h : valV ls k = some v) : ∃ p ∈ ls, p.1 = k ∧ p.2 = v := by
  unfold valV at h
  obtain ⟨p, hp, e⟩ := Option.map_eq_some_iff.mp h
  exact ⟨p, List.mem_of_find?_eq_some hp, by have z := List.find?_some hp; exact of_decide_eq_true (p := p.1 = k) z, e⟩
theorem dict_tree {P : Program} {w : World} {s : Shared} {ks ls : List (Key × V)} {va vb : List (Key × Value)} (ra : KV ks va) (rb : KV ls vb) (nd : (ks.map (·.1)).Nodup) (hk : ∀ p ∈ ks, IntN p.2) (hl : ∀ p ∈ ls, IntN p.2) :
    ∀ k v y, (k, v) ∈ va → valueAt vb k = some y → PySem.W.EqTree P w s 1 v y (eK ks ls k) := fun k v y hm hv => by
  have r1 := ra.val k
  have r2 := rb.val k
  rw [hv] at r2
  have nv : (va.map (·.1)).Nodup := by rw [← ra.keys]; exact nd
  have e1 : valueAt va k = some v := valueAt_of_mem nv hm
  rw [e1] at r1
  cases h1 : valV ks k with
  | none => rw [h1] at r1; exact absurd r1 id
  | some x =>
    cases h2 : valV ls k with
    | none => rw [h2] at r2; exact absurd r2 id
    | some z =>
      rw [h1] at r1
      rw [h2] at r2
      have e : eK ks ls k = eqV x z := by unfold eK; rw [h1, h2]
      rw [e]
      obtain ⟨p, hp, _, ep⟩ := val_in h1
      obtain ⟨q, hq, _, eq⟩ := val_in h2
      exact .leaf fun A _ => eqAt_V r1 r2 (ep ▸ (hk p hp).flatV) (eq ▸ (hl q hq).flatV)
theorem dict_all {ks ls : List (Key × V)} {va vb : List (Key × Value)} (ra : KV ks va) (rb : KV ls vb) : (va.length == vb.length && va.all fun p => (valueAt vb p.1).isSome && eK ks ls p.1) = sameK ks ls := by
  unfold sameK
  have e1 : va.length = ks.length := ra.length.symm
  have e2 : vb.length = ls.length := rb.length.symm
  rw [e1, e2]
  congr 1
  have e3 : va.all (fun p => (valueAt vb p.1).isSome && eK ks ls p.1) = (va.map (·.1)).all fun k => (valV ls k).isSome && eK ks ls k := by
    rw [List.all_map]
    congr 1
    funext p
    show _ = ((valV ls p.1).isSome && eK ks ls p.1)
    rw [(rb.val p.1).isSome_eq]
  rw [e3, ← ra.keys, List.all_map]
  rfl
section
variable {X : Cx}
theorem op_eq_dB (hu : X.A.units + 64 < cLine) : OpR X (compareOp .Eq) (rEqDB id) := by
  intro pins s σ H x y v u Q I rx ry h
  obtain ⟨a, b, ks, ls, rfl, rfl, ea, eb, nd, hk, hl, q⟩ := h
  obtain rfl : v = Value.ref a := rx
  obtain rfl : u = Value.ref b := ry
  obtain ⟨_, ya, va, ra, da⟩ := (show ObjOk X.prog X.w H s.heap a (.dK ks) from I.hok a _ ea)
  obtain ⟨_, yb, vb, rb, db⟩ := (show ObjOk X.prog X.w H s.heap b (.dK ls) from I.hok b _ eb)
  exact PySem.W.eq_dictsT (knd := mixKind X.prog X.w) (e := eK ks ls) ya yb da db (dict_tree ra rb nd hk hl) (n := 1) (by omega) (by rw [dict_all ra rb]; exact ⟨.bl _, H, I, rfl, q⟩)
theorem nodup_len {α : Type} [DecidableEq α] : ∀ {l ts : List α}, l.Nodup → (∀ x ∈ l, x ∈ ts) → l.length ≤ ts.length
  | [], _, _, _ => Nat.zero_le _
  | x :: l, ts, hn, hs => by
    have hx : x ∈ ts := hs x List.mem_cons_self
    have hn2 := List.nodup_cons.mp hn
    have ih := nodup_len (l := l) (ts := ts.erase x) hn2.2 fun y hy => by
      have ne : y ≠ x := fun e => hn2.1 (e ▸ hy)
      exact (List.mem_erase_of_ne ne).mpr (hs y (List.mem_cons_of_mem _ hy))
    rw [List.length_erase_of_mem hx] at ih
    have pos : 0 < ts.length := List.length_pos_of_mem hx
    simp only [List.length_cons]
    omega
theorem nodup_all {α : Type} [DecidableEq α] {l ts : List α} (hn : l.Nodup) (hs : ∀ x ∈ l, x ∈ ts) (hl : ts.length = l.length) (y : α) (hy : y ∈ ts) : y ∈ l := by
  cases Classical.em (y ∈ l) with
  | inl h => exact h
  | inr h =>
    have := nodup_len (l := y :: l) (ts := ts) (List.nodup_cons.mpr ⟨h, hn⟩) fun x hx => by
      rcases List.mem_cons.mp hx with rfl | hx
      · exact hy
      · exact hs x hx
    simp only [List.length_cons] at this
    omega
theorem val_none {ls : List (Key × V)} {k : Key} (h : k ∉ ls.map (·.1)) : valV ls k = none := by
  cases e : valV ls k with
  | none => rfl
  | some v =>
    obtain ⟨p, hp, ek, _⟩ := val_in e
    exact absurd (List.mem_map.mpr ⟨p, hp, ek⟩) h
theorem val_some {ls : List (Key × V)} (nd : (ls.map (·.1)).Nodup) {k : Key} (h : k ∈ ls.map (·.1)) : ∃ v, valV ls k = some v ∧ (k, v) ∈ ls := by
  obtain ⟨p, hp, rfl⟩ := List.mem_map.mp h
  exact ⟨p.2, valV_mem nd p hp, hp⟩
theorem sameK_iff {ks ls : List (Key × V)} (n1 : (ks.map (·.1)).Nodup) (n2 : (ls.map (·.1)).Nodup) (hk : ∀ p ∈ ks, IntN p.2) (hl : ∀ p ∈ ls, IntN p.2) : sameK ks ls = true ↔ ∀ k, valV ks k = valV ls k := by
  unfold sameK
  rw [Bool.and_eq_true, beq_iff_eq, List.all_eq_true]
  constructor
  · rintro ⟨hlen, hall⟩ k
    have one : ∀ p ∈ ks, valV ls p.1 = some p.2 := fun p hp => by
      have z := hall p hp
      rw [Bool.and_eq_true] at z
      obtain ⟨z1, z2⟩ := z
      obtain ⟨y, hy⟩ := Option.isSome_iff_exists.mp z1
      unfold eK at z2
      rw [valV_mem n1 p hp, hy] at z2
      obtain ⟨q, hq, _, eq⟩ := val_in hy
      have z3 : eqV p.2 y = true := z2
      rw [eqV_N (hk p hp) (eq ▸ hl q hq)] at z3
      rw [hy, of_decide_eq_true z3]
    by_cases hm : k ∈ ks.map (·.1)
    · obtain ⟨v, hv, hp⟩ := val_some n1 hm
      rw [hv, one _ hp]
    · have hm2 : k ∉ ls.map (·.1) := fun h => hm (nodup_all n1 (fun x hx => by
        obtain ⟨p, hp, rfl⟩ := List.mem_map.mp hx
        obtain ⟨q, hq, e, _⟩ := val_in (one p hp)
        exact List.mem_map.mpr ⟨q, hq, e⟩) (by rw [List.length_map, List.length_map, hlen]) k h)
      rw [val_none hm, val_none hm2]
  · intro h
    have sub : ∀ {as bs : List (Key × V)}, (as.map (·.1)).Nodup → (∀ k, valV as k = valV bs k) → ∀ x ∈ as.map (·.1), x ∈ bs.map (·.1) := fun {as bs} na hab x hx => by
      obtain ⟨v, hv, _⟩ := val_some na hx
      rw [hab] at hv
      obtain ⟨q, hq, e, _⟩ := val_in hv
      exact List.mem_map.mpr ⟨q, hq, e⟩
    refine ⟨?_, fun p hp => ?_⟩
    · have l1 := nodup_len n1 (sub n1 h)
      have l2 := nodup_len n2 (sub n2 fun k => (h k).symm)
      simp only [List.length_map] at l1 l2
      omega
    · have e1 := valV_mem n1 p hp
      have e2 := e1
      rw [h] at e2
      unfold eK
      rw [e1, e2]
      show (true && eqV p.2 p.2) = true
      rw [eqV_N (hk p hp) (hk p hp), decide_eq_true rfl]
      rfl
theorem sameK_refl {ks : List (Key × V)} (h : RowOk ks) : sameK ks ks = true := (sameK_iff h.nodup h.nodup h.2.1 h.2.1).mpr fun _ => rfl
theorem sameK_congr {ks ls ms : List (Key × V)} (h1 : RowOk ks) (h2 : RowOk ls) (h3 : RowOk ms) (h : ∀ k, valV ls k = valV ms k) : sameK ks ls = sameK ks ms := by
  rw [Bool.eq_iff_iff, sameK_iff h1.nodup h2.nodup h1.2.1 h2.2.1, sameK_iff h1.nodup h3.nodup h1.2.1 h3.2.1]
  exact ⟨fun z k => (z k).trans (h k), fun z k => (z k).trans (h k).symm⟩
end
end Lw

set_option Elab.async false
set_option linter.all false
set_option maxRecDepth 100000
set_option maxHeartbeats 4000000
namespace Lw
open PySem PySem.Spec PyProof.Rows L2
/-! == of dicts of texts, numbers, truth values and None, with both answers -/
def rEqDF : R2 := fun x y H Q => ∃ (a b : Addr) (ks ls : List (Key × V)), x = .ref a ∧ y = .ref b ∧ H a = some (.dK ks) ∧ H b = some (.dK ls) ∧ (ks.map (·.1)).Nodup ∧ (∀ p ∈ ks, flatV p.2 = true) ∧ (∀ p ∈ ls, flatV p.2 = true) ∧ Q (.bl (sameK ks ls)) H
theorem dict_treeF {P : Program} {w : World} {s : Shared} {ks ls : List (Key × V)} {va vb : List (Key × Value)} (ra : KV ks va) (rb : KV ls vb) (nd : (ks.map (·.1)).Nodup) (hk : ∀ p ∈ ks, flatV p.2 = true) (hl : ∀ p ∈ ls, flatV p.2 = true) :
    ∀ k v y, (k, v) ∈ va → valueAt vb k = some y → PySem.W.EqTree P w s 1 v y (eK ks ls k) := by
  intro k v y hm hv
  have r1 := ra.val k
  have r2 := rb.val k
  have nv : (va.map (·.1)).Nodup := ra.keys ▸ nd
  rw [valueAt_of_mem nv hm] at r1
  rw [hv] at r2
  match h1 : valV ks k, h2 : valV ls k with
  | none, _ => rw [h1] at r1; exact absurd r1 id
  | some _, none => rw [h2] at r2; exact absurd r2 id
  | some x, some z =>
    rw [h1] at r1
    rw [h2] at r2
    have e : eK ks ls k = eqV x z := by
      unfold eK
      rw [h1, h2]
    obtain ⟨p, hp, _, ep⟩ := val_in h1
    obtain ⟨q, hq, _, eq⟩ := val_in h2
    rw [e]
    exact .leaf fun A _ => eqAt_V r1 r2 (ep ▸ hk p hp) (eq ▸ hl q hq)
theorem op_eq_dF {X : Cx} (hu : X.A.units + 64 < cLine) : OpR X (compareOp .Eq) rEqDF := by
  intro pins s σ H x y v u Q I rx ry ⟨a, b, ks, ls, ex, ey, ea, eb, nd, hk, hl, q⟩
  subst ex ey
  obtain rfl : v = Value.ref a := rx
  obtain rfl : u = Value.ref b := ry
  obtain ⟨_, ya, va, ra, da⟩ := (I.hok a _ ea : ObjOk X.prog X.w H s.heap a (.dK ks))
  obtain ⟨_, yb, vb, rb, db⟩ := (I.hok b _ eb : ObjOk X.prog X.w H s.heap b (.dK ls))
  refine PySem.W.eq_dictsT (knd := mixKind X.prog X.w) (e := eK ks ls) ya yb da db (dict_treeF ra rb nd hk hl) (n := 1) (by omega) ?_
  rw [dict_all ra rb]
  exact ⟨.bl _, H, I, rfl, q⟩
end Lw

set_option Elab.async false
set_option linter.all false
set_option maxRecDepth 100000
set_option maxHeartbeats 4000000
namespace Oq
open PySem PySem.Spec PyProof.Rows L2
/-! == and != of an instance with an own __eq__ -/
/-- what it is compared with, and the type of that -/
inductive Cv (C : Addr) (H : Hp) : V → Value → Prop where
  | ins {b dx D : Addr} {fs : List (Str × V)} (h : H b = some (.ins D dx fs)) : Cv C H (.ref b) (.ref D)
  | int (i : Int) : Cv C H (.int i) (.type "int")
  | bl (b : Bool) : Cv C H (.bl b) (.type "bool")
  | dic {p : Addr} {kvs : List (Key × V)} (h : H p = some (.dK kvs)) : Cv C H (.ref p) (.type "dict")
  | non : Cv C H .non (.type "NoneType")
  | str (z : Str) : Cv C H (.str z) (.type "str")
  | tup {p : Addr} {xs : List V} (h : H p = some (.tup xs)) : Cv C H (.ref p) (.type "tuple")
  | lst {p : Addr} {xs : List V} (h : H p = some (.lst xs)) : Cv C H (.ref p) (.type "list")
section
variable {X : Cx} {pins : List (Addr × Obj)} {σ : L2.St} {H : Hp} {s : Shared} {C : Addr}
theorem looks_ty {v : Value} {T : String} (h : ∀ s' : Shared, (∀ b o, s.heap.get? b = some o → s'.heap.get? b = some o) → s'.TypeIs v T) : PySem.W.Looks (model X.prog X.w) s.heap (typeOf v) (.type T) :=
  fun A Q E s' kept q => wpAny_typeOf (h s' kept) q
theorem Cv.looks (I : Inv X pins σ H s) {y : V} {u t : Value} (c : Cv C H y t) (r : RelV y u) : PySem.W.Looks (model X.prog X.w) s.heap (typeOf u) t := by
  cases c with
  | @ins b dx D fs h =>
    cases (show u = Value.ref b from r)
    obtain ⟨m, J, _⟩ := ins_get I.hok h
    obtain ⟨od, J, _⟩ := J.look
    exact J.type
  | non => cases (show u = Value.none from r); exact looks_ty fun _ _ => rfl
  | bl b => cases (show u = Value.bool b from r); exact looks_ty fun _ _ => rfl
  | int i => obtain ⟨t, e⟩ := (show ∃ t, u = Value.int i t from r); cases e; exact looks_ty fun _ _ => rfl
  | @dic p kvs h =>
    cases (show u = Value.ref p from r)
    obtain ⟨_, _, vs, _, o, es, ep, h1, h2, _⟩ := (show ObjOk X.prog X.w H s.heap p (.dK kvs) from I.hok p _ h)
    exact looks_ty fun s' kept => ⟨o, kept _ _ h1, h2.1⟩
  | str z => obtain ⟨t, e⟩ := (show ∃ t, u = Value.str z t from r); cases e; exact looks_ty fun _ _ => rfl
  | @tup p xs h =>
    cases (show u = Value.ref p from r)
    obtain ⟨_, its, rv, o, ho, hc, n, hd⟩ := (show ObjOk X.prog X.w H s.heap p (.tup xs) from I.hok p _ h)
    exact looks_ty fun s' kept => ⟨o, kept _ _ ho, hc⟩
  | @lst p xs h =>
    cases (show u = Value.ref p from r)
    obtain ⟨_, its, n, rv, ho⟩ := (show ObjOk X.prog X.w H s.heap p (.lst xs) from I.hok p _ h)
    exact looks_ty fun s' kept => ⟨_, kept _ _ ho, rfl⟩
/-- an own def, called below -/
theorem own_call {A : Around} {Ex : Value → Shared → Prop} {k : Nat} {f : Addr} {fd : FuncData} {ps : List Str} {sp : Sp} {us : List Value} {vs : List V} {Q : VK} (fr : A.frames = some X.stack) (room : Room k A) (F : FnOk X.prog X.w X.K X.mg X.base CX0 k f fd ps sp)
    (bt : Binds X.K fd ps []) (I : Inv X pins σ H s) (r : Vals vs us) (pr : sp vs H Q E0) : wpAny (model X.prog X.w) A (call (.ref f) us) (EP X pins σ Q) Ex s := by
  have e := I.env0
  have n : us.length = ps.length := by rw [← r.length]; exact F.len _ _ _ _ pr
  have b1 := bt s us I.kIn (by rw [List.append_nil]; exact n)
  rw [List.append_nil] at b1
  refine wpAny_call (codeAny_mono (F.run A X.stack s H ⟨us, []⟩ us vs Q E0 room ⟨fr, e.mod, e.bs, e.bsz, e.funs, e.frf, e.hok, e.bare⟩ b1 r pr) ?_)
  intro rr s2 z
  match rr, z with
  | .error e, z => exact z.elim
  | .ok (.ret u), z => exact I.after z
  | .ok .next, z => exact z.elim
  | .ok .brk, z => exact z.elim
  | .ok .cont, z => exact z.elim
/-- what a class with an own __eq__ and no own __ne__ has -/
structure EqC (K : PySem.W.Frag) (C f : Addr) : Prop where
  eq : PySem.W.findIn K (.ref C) "__eq__" = some (some (.ref f))
  ne : PySem.W.findIn K (.ref C) "__ne__" = some (some (.builtin "object.__ne__"))
  fn : PySem.W.isFn K (.ref f) = true
  ob : PySem.W.mroIn K C (.type "object") = some true
def rOwn (K : PySem.W.Frag) (C : Addr) (sp : Sp) (g : Bool → Bool) : R2 := fun x y H Q => ∃ (a dx : Addr) (fs : List (Str × V)) (t : Value), x = .ref a ∧ H a = some (.ins C dx fs) ∧ Cv C H y t ∧ PySem.W.notFirst K C t = true ∧
  sp [.ref a, y] H (fun v H' => ∃ b, v = .bl b ∧ Q (.bl (g b)) H') E0
variable {k : Nat} {f : Addr} {fd : FuncData} {ps : List Str} {sp : Sp}
theorem op_eqI (E : EqC X.K C f) (F : FnOk X.prog X.w X.K X.mg X.base CX0 k f fd ps sp) (bt : Binds X.K fd ps []) (room : Room k X.A) : OpR X (compareOp .Eq) (rOwn X.K C sp id) := by
  intro pins s σ H x y u v Q I rx ry h
  obtain ⟨a, dx, fs, t, rfl, ha, c, nf, pr⟩ := h
  cases (show u = Value.ref a from rx)
  obtain ⟨m, J, _⟩ := ins_get I.hok ha
  obtain ⟨od, J, _⟩ := J.look
  have fr := I.ok.frames
  obtain ⟨m2, hF⟩ := I.fr
  show wpAny (model X.prog X.w) X.A (richCompare .Eq (.ref a) v) (EP X pins σ Q) X.xe s
  refine PySem.W.cmp_K (op := .Eq) room.units0 hF I.ok.mod.kin J (c.looks I ry) nf E.eq E.fn (thn (own_call fr room F bt I (vs := [.ref a, y]) (.cons (show RelV (.ref a) (Value.ref a) from rfl) (.cons ry .nil)) pr) ?_)
  rintro r s2 ⟨z, H2, I2, rz, b, rfl, q⟩
  cases (show r = Value.bool b from rz)
  exact ⟨.bl b, H2, I2, rfl, q⟩
/-- object.__ne__ on such an instance: its own __eq__ is asked -/
theorem ne_entry {A : Around} {R : Fin → Shared → Prop} {Ex : Value → Shared → Prop} {a : Addr} {ox : Obj} {od : Option Obj} {u : Value} (hu : A.units < cLine) (E : EqC X.K C f) (KI : X.K.In s.heap) (J : PySem.W.InstAt s.heap a ox C od)
    (h : wpAny (model X.prog X.w) A (call (.ref f) [.ref a, u]) (fun r s' => ∃ b, r = .bool b ∧ R (.done (.ret (.bool (!b)))) s') Ex s) : wpAny (model X.prog X.w) A (Builtin.«object.__ne__» ⟨[.ref a, u], []⟩) R Ex s := by
  unfold Builtin.«object.__ne__»
  show wpAny _ _ (slotArgs "__ne__" 1 ⟨[.ref a, u], []⟩ >>= _) _ _ s
  refine wpAny_bind (wpAny_of_eq (rfl : slotArgs "__ne__" 1 ⟨[.ref a, u], []⟩ = pure (.ref a, [u])) ?_)
  refine wpAny_bind (wpAny_cRoomFor hu (wpAny_bind ?_))
  refine PySem.W.ifBound_K KI J E.eq E.fn (wpAny_mono h ?_ fun _ _ z => z)
  rintro r s' ⟨b, rfl, q⟩
  exact wpAny_bind (wpAny_truthy_bool (wpAny_pure q))
theorem ne_call {A : Around} {R : Value → Shared → Prop} {Ex : Value → Shared → Prop} {a : Addr} {ox : Obj} {od : Option Obj} {u : Value} (hu : A.units + 1 < cLine) (E : EqC X.K C f) (KI : X.K.In s.heap) (J : PySem.W.InstAt s.heap a ox C od)
    (h : wpAny (model X.prog X.w) A.in1 (call (.ref f) [.ref a, u]) (fun r s' => ∃ b, r = .bool b ∧ R (.bool (!b)) s') (fun _ _ => False) s) : wpAny (model X.prog X.w) A (tryCompare (.ref a) "__ne__" u) (fun r s' => ∃ v, r = some v ∧ v ≠ .notImplemented ∧ R v s') Ex s := by
  have run : wpAny (model X.prog X.w) A (call (.builtin "object.__ne__") [.ref a, u]) (fun v s' => ∃ b, v = .bool b ∧ R v s') Ex s := by
    refine wpAny_call (codeAny_call_builtin F.cmp_object.ne.plain F.cmpEntry_ne (PySem.W.check_slot F.cmpKind_ne F.cmpSplit_ne (J.type.andThen (PySem.W.looks_mroIn KI E.ob)) (F.cmpArgs_ne _ _) ?_))
    refine ne_entry (by show A.units + 1 < cLine; exact hu) E KI J (wpAny_mono h ?_ fun _ _ z => z.elim)
    rintro r s' ⟨b, rfl, q⟩
    exact ⟨b, rfl, _, rfl, q⟩
  unfold tryCompare
  have last : wpAny (model X.prog X.w) A (callSpecialIfBound? (.ref a) "__ne__" [u]) (fun r s' => ∃ b, r = some (.bool b) ∧ R (.bool b) s') Ex s := by
    simp only [callSpecialIfBound?, bindSpecialIfBound?]
    refine wpAny_holding (wpAny_bind (wpAny_bind (wpAny_bind (J.type.here ((PySem.W.looks_findIn KI E.ne).here (wpAny_bind (wpAny_askSetting (wpAny_ite ?_))))))))
    have go : wpAny (model X.prog X.w) A (call (.builtin "object.__ne__") ([.ref a] ++ [u]) >>= fun v => pure (some v)) (fun r s' => ∃ b, r = some (.bool b) ∧ R (.bool b) s') Ex s := by
      refine wpAny_bind (wpAny_mono run ?_ fun _ _ z => z)
      rintro v s' ⟨b, rfl, q⟩
      exact wpAny_pure ⟨b, rfl, q⟩
    split
    · exact wpAny_bind (wpAny_of_eq (F.cmp_object.ne.bind _) (wpAny_pure (by exact go)))
    · exact wpAny_tryCatch (wpAny_bind (wpAny_of_eq (F.cmp_object.ne.bind _) (wpAny_pure (by exact go))))
  refine wpAny_bind (wpAny_mono last ?_ fun _ _ z => z)
  rintro r s' ⟨b, rfl, q⟩
  exact wpAny_pure ⟨_, rfl, (fun z => by cases z), q⟩
theorem rich_ne {R : Value → Shared → Prop} {Ex : Value → Shared → Prop} {A : Around} {a : Addr} {ox : Obj} {od : Option Obj} {u t : Value} (hu : A.units < cLine) (KI : X.K.In s.heap) (J : PySem.W.InstAt s.heap a ox C od) (look : PySem.W.Looks (model X.prog X.w) s.heap (typeOf u) t)
    (nf : PySem.W.notFirst X.K C t = true) (h : wpAny (model X.prog X.w) A (tryCompare (.ref a) "__ne__" u) (fun r s' => ∃ v, r = some v ∧ v ≠ .notImplemented ∧ R v s') Ex s) : wpAny (model X.prog X.w) A (richCompare .NotEq (.ref a) u) R Ex s := by
  have sub : t = .ref C ∨ PySem.W.subIn X.K t (.ref C) = some false := (Bool.or_eq_true_iff.mp nf).imp beq_iff_eq.mp beq_iff_eq.mp
  have go : ∀ K2 : Option Value → Sem Value, (∀ v, K2 (some v) = pure v) → wpAny (model X.prog X.w) A (tryCompare (.ref a) "__ne__" u >>= K2) R Ex s := by
    intro K2 e
    refine wpAny_bind (wpAny_mono h ?_ fun _ _ z => z)
    rintro r s' ⟨v, rfl, _, q⟩
    rw [e v]
    exact wpAny_pure q
  unfold richCompare
  simp only [oneThing_ref]
  refine wpAny_holding (wpAny_bind (wpAny_cRoomFor hu (wpAny_bind (J.type.here (wpAny_bind (look.here ?_))))))
  split
  · rename_i q
    rcases sub with e | e
    · rw [e] at q
      simp at q
    · refine wpAny_bind ((PySem.W.looks_subIn KI e).here ?_)
      simp only [Bool.false_eq_true, if_false]
      exact go _ fun _ => rfl
  · refine wpAny_bind (wpAny_pure ?_)
    simp only [Bool.false_eq_true, if_false]
    exact go _ fun _ => rfl
theorem op_neI (E : EqC X.K C f) (F : FnOk X.prog X.w X.K X.mg X.base CX0 k f fd ps sp) (bt : Binds X.K fd ps []) (room : Room (k + 1) X.A) : OpR X (compareOp .NotEq) (rOwn X.K C sp Bool.not) := by
  intro pins s σ H x y u v Q I rx ry h
  obtain ⟨a, dx, fs, t, rfl, ha, c, nf, pr⟩ := h
  cases (show u = Value.ref a from rx)
  obtain ⟨m, J, _⟩ := ins_get I.hok ha
  obtain ⟨od, J, _⟩ := J.look
  have fr := I.ok.frames
  have r1 : Room k X.A.in1 := room.in1
  show wpAny (model X.prog X.w) X.A (richCompare .NotEq (.ref a) v) (EP X pins σ Q) X.xe s
  refine rich_ne room.units0 I.kIn J (c.looks I ry) nf (ne_call r1.units0 E I.kIn J (thn (own_call (A := X.A.in1) fr r1 F bt I (vs := [.ref a, y]) (.cons (show RelV (.ref a) (Value.ref a) from rfl) (.cons ry .nil)) pr) ?_))
  rintro r s2 ⟨z, H2, I2, rz, b, rfl, q⟩
  cases (show r = Value.bool b from rz)
  exact ⟨b, rfl, .bl (!b), H2, I2, rfl, q⟩
end
end Oq

set_option Elab.async false
set_option linter.all false
set_option maxRecDepth 100000
set_option maxHeartbeats 2000000
namespace Mm
open PySem PySem.Spec PyProof.Rows L2
/-! one dict merged into another: {**a, **b}, f(**d) -/
section
variable {prog : Program} {w : World} {κ : Type} [DecidableEq κ] {knd : KeyKind prog w κ} {A : Around} {E : Value → Shared → Prop} {s : Shared}
theorem few {es : Array DictEntry} {kvs : List (κ × Value)} (h : es.toList.length = kvs.length) (hz : kvs.length ≤ sizeLine) : es.size ≤ sizeLine := by
  have e : es.toList.length = es.size := by simp
  omega
/-- an entry put, its hash known -/
theorem put_one {d : Addr} {kvs : List (κ × Value)} {k : κ} {key v : Value} {Q : Unit → Shared → Prop} (ik : knd.is k key = true) (m : s.heap.DictOf knd d kvs) (q : ∀ h', h'.DictOf knd d (stored kvs k v) → Heap.SameBut d s.heap h' → Q () { s with heap := h' })
    (hz : kvs.length ≤ sizeLine) : wpAny (model prog w) A (dictPut d (knd.hash k) key v) Q E s := by
  obtain ⟨o, es, ep, ho, hc, hd, hk, hp, hn⟩ := m
  have hes : es.size ≤ sizeLine := few hp.length hz
  have same : (es.findIdx? fun e => knd.is k e.key) = kvs.findIdx? fun kv => decide (kv.1 = k) := by
    rw [← hp.findIdx k]
    obtain ⟨l⟩ := es
    simp
  unfold dictPut
  apply wpAny_bind
  apply wpAny_dictFind_of ik ho hd hk
  cases at_ : es.findIdx? fun e => knd.is k e.key with
  | some i =>
    have q1 := hc.mapDict fun es => es.modify i fun e => { e with val := v }
    refine wpAny_updateDict ho hd (q _ ⟨_, _, ep, Heap.get?_update_self _ ho (Obj.isFreed_of_dict (Obj.data_mapDict hd _)), q1, Obj.data_mapDict hd _, hk.modify _ _, ?_, ?_⟩ (Heap.SameBut.update ..))
    · have there : (es.toList.findIdx? fun e => knd.is k e.key) = some i := by
        rw [← at_]
        obtain ⟨l⟩ := es
        simp
      have z := hp.modify hn there v
      rw [stored, if_pos (any_of_findIdx_some (same ▸ at_))]
      obtain ⟨l⟩ := es
      simpa using z
    · rw [stored, if_pos (any_of_findIdx_some (same ▸ at_)), keys_map_store]
      exact hn
  | none =>
    have out : k ∉ kvs.map (·.1) := not_mem_of_findIdx_none (same ▸ at_)
    have no : ¬ (kvs.any fun kv => decide (kv.1 = k)) = true := fun z => by
      obtain ⟨kv, h1, h2⟩ := List.any_eq_true.mp z
      exact out (List.mem_map.mpr ⟨kv, h1, of_decide_eq_true h2⟩)
    refine wpAny_updateDictKeys (hz := hes) ho hd (q _ ⟨_, _, ep + 1, Heap.get?_update_self _ ho (Obj.isFreed_of_dict (Obj.data_mapDictKeys hd _)), hc.mapDictKeys _, Obj.data_mapDictKeys hd _, hk.push ik _, ?_, ?_⟩ (Heap.SameBut.update ..))
    · have z := hp.append ik (knd.hash k) v
      rw [stored, if_neg no]
      obtain ⟨l⟩ := es
      simpa using z
    · rw [stored, if_neg no, List.map_append, List.nodup_append]
      refine ⟨hn, by simp, fun x hx y hy e => ?_⟩
      rw [List.map_cons, List.map_nil, List.mem_singleton] at hy
      exact out ((show x = k from e.trans hy) ▸ hx)
theorem no_ref {k : κ} {a : Addr} : ¬ knd.is k (.ref a) = true := fun h => by
  have z := knd.byValue k _ h
  cases z
/-- one plain dict merged into another -/
theorem merge_one {d o : Addr} {kvs more : List (κ × Value)} {Q : Unit → Shared → Prop} (ne : d ≠ o) (ns : (o == sysModules) = false) (hd : s.heap.DictOf knd d kvs) (ho : s.heap.DictOf knd o more)
    (q : ∀ h', h'.DictOf knd d (merged kvs more) → h'.DictOf knd o more → Heap.SameBut d s.heap h' → Q () { s with heap := h' }) (hz : kvs.length + more.length ≤ sizeLine) : wpAny (model prog w) A (mergeMapping d (.ref o) false) Q E s := by
  obtain ⟨od, esd, epd, hod, hcd, hdd, hkd, hpd, hnd⟩ := id hd
  obtain ⟨oo, eso, epo, hoo, hco, hdo, hko, hpo, hno⟩ := id ho
  have len : more.length = eso.size := by
    rw [← hpo.length]
    simp
  unfold mergeMapping
  refine wpAny_bind (wpAny_isInstance ho.typeIs isSubtype_dict_dict ?_)
  dsimp only
  rw [if_pos rfl]
  refine wpAny_bind (wpAny_specialOf ho.typeIs F.slot_dict_iter.lookup (wpAny_bind (wpAny_pure ?_)))
  simp only [beq_self_eq_true]
  rw [if_neg (by rw [ns]; exact Bool.false_ne_true)]
  refine wpAny_bind (wpAny_dictEntries hod hdd ?_)
  have loop : wpAny (model prog w) A (do
      let l ← dictEntries o
      let epoch ← dictEpoch o
      forIn (List.range l.size) PUnit.unit fun i (_ : PUnit) => (do
          let l2 ← dictEntries o
          match l2[i]? with
            | some e => do
              holding [e.key, e.val] (dictPut d e.hash e.key e.val)
              let ep2 ← dictEpoch o
              if (ep2 != epoch) = true then do
                  (unsupported "dict.changed-during-merge" : Sem PUnit)
                  pure (ForInStep.yield PUnit.unit)
                else pure (ForInStep.yield PUnit.unit)
            | _ => do
              (unsupported "dict.changed-during-merge" : Sem PUnit)
              pure (ForInStep.yield PUnit.unit) : Sem (ForInStep PUnit))
      pure ()) Q E s := by
    refine wpAny_bind (wpAny_dictEntries hoo hdo (wpAny_bind (wpAny_dictEpoch hoo hdo (wpAny_bind ?_))))
    rw [List.range_eq_range']
    refine wpAny_forIn_list _ (fun rest _ s' => ∃ h' i, s' = { s with heap := h' } ∧ rest = List.range' i (eso.size - i) ∧ i ≤ eso.size ∧ h'.DictOf knd d (merged kvs (more.take i)) ∧ h'.get? o = some oo ∧ Heap.SameBut d s.heap h') _ ?_ ?_ _ _
      ⟨s.heap, 0, rfl, by simp, Nat.zero_le _, by simpa [merged] using hd, hoo, Heap.SameBut.refl _ _⟩
    · rintro x rest b s' ⟨h', i, rfl, hr, hi, hd', hoo', hs'⟩
      have hlt : i < eso.size := by
        rcases Nat.lt_or_ge i eso.size with h | h
        · exact h
        · rw [Nat.sub_eq_zero_of_le h] at hr
          cases hr
      have e0 : eso.size - i = (eso.size - (i + 1)) + 1 := by omega
      rw [e0, List.range'_succ] at hr
      injection hr with hx hrest
      subst hx
      refine wpAny_bind (wpAny_dictEntries hoo' hdo ?_)
      rw [Array.getElem?_eq_getElem hlt]
      obtain ⟨⟨k, v⟩, hkv⟩ : ∃ kv, more[x]? = some kv := ⟨more[x]'(by rw [len]; exact hlt), List.getElem?_eq_getElem _⟩
      obtain ⟨ik, hval⟩ := hpo.get? (e := eso[x]) (by simp [hlt]) hkv
      obtain ⟨k2, ik2, hhash⟩ := hko eso[x] (Array.getElem_mem hlt)
      obtain rfl : k2 = k := knd.inj _ _ _ ik2 ik
      have hm : (merged kvs (more.take x)).length ≤ sizeLine := by
        have e1 := merged_length_le kvs (more.take x)
        have e2 : (more.take x).length ≤ more.length := by rw [List.length_take]; omega
        omega
      dsimp only
      rw [hhash, hval]
      refine wpAny_bind (wpAny_holding (put_one ik hd' (fun h2 hd2 hs2 => ?_) hm))
      have hoo2 : h2.get? o = some oo := (hs2.2 o (Ne.symm ne)).trans hoo'
      refine wpAny_bind (wpAny_dictEpoch hoo2 hdo ?_)
      rw [if_neg (by simp)]
      exact wpAny_pure ⟨h2, x + 1, rfl, hrest, hlt, by rw [merged_take_succ kvs more x (k2, v) hkv]; exact hd2, hoo2, hs'.trans hs2⟩
    · rintro b s' ⟨h', i, rfl, hr, hi, hd', hoo', hs'⟩
      have hin : i = eso.size := by
        rcases Nat.lt_or_ge i eso.size with h | h
        · have e0 : eso.size - i = (eso.size - (i + 1)) + 1 := by omega
          rw [e0, List.range'_succ] at hr
          cases hr
        · exact Nat.le_antisymm hi h
      refine wpAny_pure (q h' ?_ ⟨oo, eso, epo, hoo', hco, hdo, hko, hpo, hno⟩ hs')
      rw [hin, ← len, List.take_length] at hd'
      exact hd'
  split
  · refine wpAny_bind (wpAny_dictEntries hoo hdo ?_)
    refine wpAny_bind (wpAny_of_eq (a := PUnit.unit) ?_ loop)
    rw [← Array.forIn_toList]
    refine forIn_yield_id _ fun e he c => ?_
    obtain ⟨k, ik, _⟩ := hko e (Array.mem_toList_iff.mp he)
    generalize e.key = v at ik ⊢
    cases v with
    | ref a => exact absurd ik no_ref
    | _ => rfl
  · exact loop
/-- .. whose keys are new, each asked for -/
theorem merge_new {d o : Addr} {kvs more : List (κ × Value)} {Q : Unit → Shared → Prop} (ne : d ≠ o) (ns : (o == sysModules) = false) (hd : s.heap.DictOf knd d kvs) (ho : s.heap.DictOf knd o more) (nw : ((kvs ++ more).map (·.1)).Nodup)
    (q : ∀ h', h'.DictOf knd d (kvs ++ more) → h'.DictOf knd o more → Heap.SameBut d s.heap h' → Q () { s with heap := h' }) (hz : kvs.length + more.length ≤ sizeLine) : wpAny (model prog w) A (mergeMapping d (.ref o) true) Q E s := by
  obtain ⟨od, esd, epd, hod, hcd, hdd, hkd, hpd, hnd⟩ := id hd
  obtain ⟨oo, eso, epo, hoo, hco, hdo, hko, hpo, hno⟩ := id ho
  have len : more.length = eso.size := by
    rw [← hpo.length]
    simp
  unfold mergeMapping
  refine wpAny_bind (wpAny_isInstance ho.typeIs isSubtype_dict_dict ?_)
  dsimp only
  rw [if_pos rfl]
  refine wpAny_bind (wpAny_specialOf ho.typeIs F.slot_dict_iter.lookup (wpAny_bind (wpAny_pure ?_)))
  simp only [beq_self_eq_true]
  rw [if_neg (by rw [ns]; exact Bool.false_ne_true)]
  refine wpAny_bind (wpAny_dictEntries hod hdd ?_)
  have turns : ∀ (F : Nat → PUnit → Sem (ForInStep PUnit)), (∀ (i : Nat) (hi : i < eso.size) (s' : Shared) (R : ForInStep PUnit → Shared → Prop), s'.heap.get? o = some oo → (∀ (kk : κ) (e : DictEntry), eso[i]? = some e → knd.is kk e.key = true → e.hash = knd.hash kk → ∀ (acc : List (κ × Value)), s'.heap.DictOf knd d acc → kk ∉ acc.map (·.1) → acc.length ≤ sizeLine →
      (∀ h2, h2.DictOf knd d (stored acc kk e.val) → Heap.SameBut d s'.heap h2 → R (.yield PUnit.unit) { s' with heap := h2 }) → wpAny (model prog w) A (F i PUnit.unit) R E s')) → wpAny (model prog w) A (do forIn (List.range eso.size) PUnit.unit F; pure ()) Q E s := by
    intro F hF
    refine wpAny_bind ?_
    rw [List.range_eq_range']
    refine wpAny_forIn_list _ (fun rest _ s' => ∃ h' i, s' = { s with heap := h' } ∧ rest = List.range' i (eso.size - i) ∧ i ≤ eso.size ∧ h'.DictOf knd d (kvs ++ more.take i) ∧ h'.get? o = some oo ∧ Heap.SameBut d s.heap h') _ ?_ ?_ _ _
      ⟨s.heap, 0, rfl, by simp, Nat.zero_le _, by simpa using hd, hoo, Heap.SameBut.refl _ _⟩
    · rintro x rest b s' ⟨h', i, rfl, hr, hi, hd', hoo', hs'⟩
      have hlt : i < eso.size := by
        rcases Nat.lt_or_ge i eso.size with h | h
        · exact h
        · rw [Nat.sub_eq_zero_of_le h] at hr
          cases hr
      have e0 : eso.size - i = (eso.size - (i + 1)) + 1 := by omega
      rw [e0, List.range'_succ] at hr
      injection hr with hx hrest
      subst hx
      obtain ⟨⟨k, v⟩, hkv⟩ : ∃ kv, more[x]? = some kv := ⟨more[x]'(by rw [len]; exact hlt), List.getElem?_eq_getElem _⟩
      obtain ⟨ik, hval⟩ := hpo.get? (e := eso[x]) (by simp [hlt]) hkv
      obtain ⟨k2, ik2, hhash⟩ := hko eso[x] (Array.getElem_mem hlt)
      obtain rfl : k2 = k := knd.inj _ _ _ ik2 ik
      have out : k2 ∉ (kvs ++ more.take x).map (·.1) := fun m => by
        have hl : x < more.length := by rw [len]; exact hlt
        have e1 : more = more.take x ++ (k2, v) :: more.drop (x + 1) := by
          conv => lhs; rw [← List.take_append_drop x more, List.drop_eq_getElem_cons hl, (List.getElem?_eq_some_iff.mp hkv).2]
        rw [e1, ← List.append_assoc, List.map_append, List.map_cons] at nw
        exact (List.nodup_append.mp nw).2.2 k2 m k2 List.mem_cons_self rfl
      have hm : (kvs ++ more.take x).length ≤ sizeLine := by
        rw [List.length_append, List.length_take]
        omega
      refine hF x hlt _ _ hoo' k2 eso[x] (Array.getElem?_eq_getElem hlt) ik2 hhash _ hd' out hm fun h2 hd2 hs2 => ?_
      have no : ¬ ((kvs ++ more.take x).any fun kv => decide (kv.1 = k2)) = true := fun z => by
        obtain ⟨kv, h1, h3⟩ := List.any_eq_true.mp z
        exact out (List.mem_map.mpr ⟨kv, h1, of_decide_eq_true h3⟩)
      refine ⟨h2, x + 1, rfl, hrest, hlt, ?_, (hs2.2 o (Ne.symm ne)).trans hoo', hs'.trans hs2⟩
      rw [stored, if_neg no, hval] at hd2
      rw [List.take_add_one, hkv, ← List.append_assoc]
      exact hd2
    · rintro b s' ⟨h', i, rfl, hr, hi, hd', hoo', hs'⟩
      have hin : i = eso.size := by
        rcases Nat.lt_or_ge i eso.size with h | h
        · have e0 : eso.size - i = (eso.size - (i + 1)) + 1 := by omega
          rw [e0, List.range'_succ] at hr
          cases hr
        · exact Nat.le_antisymm hi h
      refine wpAny_pure (q h' ?_ ⟨oo, eso, epo, hoo', hco, hdo, hko, hpo, hno⟩ hs')
      rw [hin, ← len, List.take_length] at hd'
      exact hd'
  have loop : wpAny (model prog w) A (do
      let l ← dictEntries o
      let epoch ← dictEpoch o
      forIn (List.range l.size) PUnit.unit fun i (_ : PUnit) => (do
          let l2 ← dictEntries o
          match l2[i]? with
            | some e => do
              holding [e.key, e.val] (do
                let f ← dictFind d e.key e.hash
                if f.isSome = true then do
                    rule "dict.merge.duplicate-key"
                    let x ← newExc (Value.type "KeyError") [e.key]
                    let _ ← (raiseNew x : Sem PUnit)
                    dictPut d e.hash e.key e.val
                  else dictPut d e.hash e.key e.val)
              let ep2 ← dictEpoch o
              if (ep2 != epoch) = true then do
                  (unsupported "dict.changed-during-merge" : Sem PUnit)
                  pure (ForInStep.yield PUnit.unit)
                else pure (ForInStep.yield PUnit.unit)
            | _ => do
              (unsupported "dict.changed-during-merge" : Sem PUnit)
              pure (ForInStep.yield PUnit.unit) : Sem (ForInStep PUnit))
      pure ()) Q E s := by
    refine wpAny_bind (wpAny_dictEntries hoo hdo (wpAny_bind (wpAny_dictEpoch hoo hdo (turns _ ?_))))
    intro i hi s' R hoo' kk e he ik hh acc hacc out hz2 k
    refine wpAny_bind (wpAny_dictEntries hoo' hdo ?_)
    rw [he]
    dsimp only
    obtain ⟨oa, ea, pa, ha, ca, da, ka, ppa, na⟩ := id hacc
    refine wpAny_bind (wpAny_holding (wpAny_bind ?_))
    rw [hh]
    refine wpAny_dictFind_of ik ha da ka ?_
    have none_ : (ea.findIdx? fun e => knd.is kk e.key) = none := by
      have z : (ea.findIdx? fun e => knd.is kk e.key) = acc.findIdx? fun kv => decide (kv.1 = kk) := by
        rw [← ppa.findIdx kk]
        obtain ⟨l⟩ := ea
        simp
      rw [z, List.findIdx?_eq_none_iff]
      intro kv hkv
      exact decide_eq_false fun e => out (List.mem_map.mpr ⟨kv, hkv, e⟩)
    rw [none_]
    rw [if_neg (by simp)]
    refine put_one ik hacc (fun h2 hd2 hs2 => ?_) hz2
    have hoo2 : h2.get? o = some oo := (hs2.2 o (Ne.symm ne)).trans hoo'
    refine wpAny_bind (wpAny_dictEpoch hoo2 hdo ?_)
    rw [if_neg (by simp)]
    exact wpAny_pure (k h2 hd2 hs2)
  split
  · refine wpAny_bind (wpAny_dictEntries hoo hdo ?_)
    refine wpAny_bind (wpAny_of_eq (a := PUnit.unit) ?_ loop)
    rw [← Array.forIn_toList]
    refine forIn_yield_id _ fun e he c => ?_
    obtain ⟨k, ik, _⟩ := hko e (Array.mem_toList_iff.mp he)
    generalize e.key = v at ik ⊢
    cases v with
    | ref a => exact absurd ik no_ref
    | _ => rfl
  · exact loop
end
end Mm

set_option Elab.async false
set_option linter.all false
set_option maxRecDepth 100000
set_option maxHeartbeats 4000000
namespace Du
open PySem PySem.Spec PyProof.Rows L2
/-! d.update(e), both dicts -/
def rUpdate : V → List V → Hp → VK → Prop := fun x vs H Q => ∃ (a b : Addr) (kvs more : List (Key × V)), x = .ref a ∧ vs = [.ref b] ∧ a ≠ b ∧ H a = some (.dK kvs) ∧ Rd H b (.dK more) ∧ kvs.length + more.length ≤ sizeLine ∧ Q .non (upd H a (.dK (mergeK kvs more)))
theorem mt_update {X : Cx} : MtM X "dict.update" rUpdate := by
  intro pins s σ H x vs v us Q I rx rv h
  obtain ⟨a, b, kvs, more, rfl, rfl, ne, ha, hb, hz, q⟩ := h
  cases rx
  obtain ⟨u, rfl, ru⟩ := rv.one
  cases ru
  obtain ⟨z, hd, vs1, rel, dd⟩ := dk_of I.hok ha
  obtain ⟨z2, hd2, vs2, rel2, dd2⟩ := dk_rd I.hok hb
  refine call_meetsIn PySem.F.slot_dict_update dd.typeIs PySem.F.entry_dict_update (PySem.F.args_dict_update_2 _ _) (meets_dict_update (mixKind X.prog X.w) a b ne hd2) ⟨vs1, vs2, dd, dd2, (by rw [← rel.length, ← rel2.length]; exact hz), fun h' dd' _ hs => ?_⟩
  have hl : (mergeK kvs more).length ≤ sizeLine := Nat.le_trans (length_mergeK more kvs) hz
  have he : ∃ q, h'.get? a = some q := let ⟨q, _, _, hq, _⟩ := dd'; ⟨q, hq⟩
  exact ⟨.non, _, d_write I (by rw [ha]; exact True.intro) hs he (dk_new hl hd (KV.merge rel2 rel) dd'), rfl, q⟩
end Du
#check @PySem.F.type_dict_update

set_option Elab.async false
set_option linter.all false
set_option maxRecDepth 100000
set_option maxHeartbeats 2000000
namespace Mm
open PySem PySem.Spec PyProof.Rows L2
section
variable {X : Cx} {pins : List (Addr × Obj)} {σ : L2.St} {H : Hp} {s : Shared} {A : Around} {E : Value → Shared → Prop} {a b : Addr} {kvs more : List (Key × V)}
theorem merge_inv {Q : Unit → Shared → Prop} (I : Inv X pins σ H s) (ne : a ≠ b) (ha : H a = some (.dK kvs)) (hb : Rd H b (.dK more)) (hz : kvs.length + more.length ≤ sizeLine)
    (q : ∀ s', Inv X pins σ (upd H a (.dK (mergeK kvs more))) s' → Q () s') : wpAny (model X.prog X.w) A (mergeMapping a (.ref b) false) Q E s := by
  obtain ⟨z, hd, vs1, rel, dd⟩ := dk_of I.hok ha
  obtain ⟨z2, hd2, vs2, rel2, dd2⟩ := dk_rd I.hok hb
  refine merge_one ne hd2 dd dd2 (fun h' dd' _ hs => q _ ?_) (by rw [← rel.length, ← rel2.length]; exact hz)
  have hl : (mergeK kvs more).length ≤ sizeLine := Nat.le_trans (length_mergeK more kvs) hz
  have he : ∃ q, h'.get? a = some q := let ⟨q, _, _, hq, _⟩ := dd'; ⟨q, hq⟩
  exact d_write I (by rw [ha]; exact True.intro) hs he (dk_new hl hd (KV.merge rel2 rel) dd')
/-- {**e1, **e2} -/
def tTwo (t1 t2 : TE) : TE := fun σ H Q => ∀ d, H d = none → t1 σ (upd H d (.dK [])) fun x H1 => ∃ (p : Addr) (k1 : List (Key × V)), x = .ref p ∧ d ≠ p ∧ H1 d = some (.dK []) ∧ Rd H1 p (.dK k1) ∧
  t2 σ (upd H1 d (.dK (mergeK [] k1))) fun y H2 => ∃ (r : Addr) (k2 : List (Key × V)), y = .ref r ∧ d ≠ r ∧ H2 d = some (.dK (mergeK [] k1)) ∧ Rd H2 r (.dK k2) ∧ k1.length + k2.length ≤ 1000 ∧ Q (.ref d) (upd H2 d (.dK (mergeK (mergeK [] k1) k2)))
theorem pe_two {e1 e2 : Expr} {t1 t2 : TE} {pos : Pos} (h1 : PE X e1 t1) (h2 : PE X e2 t2) (hz : (evalEachOpt [none, none] X.env).zip ((evalEach [e1, e2] X.env).map fun v => do let x ← v; standAt pos; pure x) = [(none, do let x ← eval e1 X.env; standAt pos; pure x), (none, do let x ← eval e2 X.env; standAt pos; pure x)] := by rfl) :
    PE X (.Dict [none, none] [e1, e2] pos) (tTwo t1 t2) := by
  refine ⟨fun pins s σ H Q I h => ?_⟩
  rw [arm_eval_Dict, hz]
  refine wpAny_bind (wpAny_standAt ?_)
  unfold dictDisplay
  dsimp only
  rw [List.forIn_cons]
  refine wpAny_bind (wpAny_bind ?_)
  dsimp only
  rw [if_pos (by rfl)]
  refine wpAny_bind (wpAny_pure ?_)
  refine wpAny_bind (wpAny_alloc ?_)
  have nd := I.hok.fresh (Nat.le_refl s.heap.objs.size)
  have I1 := I.laid (a := s.heap.objs.size) (o := .dK []) (h' := s.heap.push { cls := .type "dict", data := .dict #[] }) (t' := s.toks) (fun _ _ q => Heap.get?_push_of_some _ q) (Nat.le_refl _) (dk_empty s.heap I.big)
  refine wpAny_bind (wpAny_holding (wpAny_bind (thn (h1.run pins _ σ _ _ I1 (h _ nd)) fun v s1 ⟨x, H1, J1, r1, p, k1, ex, dp, hd1, hp1, q1⟩ => wpAny_bind (wpAny_standAt (wpAny_pure ?_)))))
  subst ex
  cases r1
  have small : ∀ {n m : Nat}, n + m ≤ 1000 → n ≤ sizeLine ∧ n + m ≤ sizeLine := fun {n m} h => by
    have h9 : sizeLine = 16777216 := by decide
    omega
  have q1 := q1
  refine wpAny_bind (wpAny_onRaise (wpAny_tryCatch (wpAny_onRaise (wpAny_holding (merge_inv J1 dp hd1 hp1 ?_ fun s2 J2 => wpAny_pure ?_)))))
  · have z := (rd_of J1.hok hp1 : ObjOk _ _ _ _ _ _).1
    simpa using z
  dsimp only
  rw [List.forIn_cons]
  refine wpAny_bind ?_
  dsimp only
  rw [if_pos (by rfl)]
  refine wpAny_bind (wpAny_pure ?_)
  refine wpAny_bind (wpAny_pure ?_)
  refine wpAny_bind (wpAny_holding (wpAny_bind (thn (h2.run pins _ σ _ _ J2 q1) fun v2 s3 ⟨y, H2, J3, r2, r, k2, ey, dr, hd2, hr2, hz2, q2⟩ => wpAny_bind (wpAny_standAt (wpAny_pure ?_)))))
  subst ey
  cases r2
  have hk : (mergeK [] k1).length + k2.length ≤ sizeLine := by
    have h1 := length_mergeK k1 ([] : List (Key × V))
    rw [List.length_nil] at h1
    have := (small hz2).2
    omega
  refine wpAny_bind (wpAny_onRaise (wpAny_tryCatch (wpAny_onRaise (wpAny_holding (merge_inv J3 dr hd2 hr2 hk fun s4 J4 => wpAny_pure ?_)))))
  dsimp only
  rw [List.forIn_nil]
  refine wpAny_pure ?_
  dsimp only
  rw [if_pos (by rfl)]
  refine wpAny_bind (wpAny_pure ?_)
  exact wpAny_pure ⟨.ref s.heap.objs.size, _, J4, rfl, q2⟩
end
end Mm

set_option Elab.async false
set_option linter.all false
set_option maxRecDepth 100000
set_option maxHeartbeats 2000000
namespace Mm
open PySem PySem.Spec PyProof.Rows L2
section
variable {P : Program} {w : World} {A : Around} {E : Value → Shared → Prop} {s : Shared}
/-- the keywords that a dict of texts gives -/
theorem kw_in {f : Value} {d : Addr} {o : Obj} {es : Array DictEntry} {ep : Nat} {ks : List Str} {us : List Value} {Q : List (Str × Value) → Shared → Prop} (ho : s.heap.get? d = some o) (hd : o.data = .dict es ep)
    (pr : Pairs (mixKind P w) es.toList ((ks.map Sum.inr).zip us)) (l : ks.length = us.length) (q : Q (ks.zip us) s) : wpAny (model P w) A (keywordsIn f d) Q E s := by
  unfold keywordsIn
  refine wpAny_bind (wpAny_dictEntries ho hd (wpAny_bind ?_))
  rw [← Array.forIn_toList]
  refine wpAny_forIn_list _ (fun rest kw s' => s' = s ∧ ∃ (k1 k2 : List Str) (u1 u2 : List Value), ks = k1 ++ k2 ∧ us = u1 ++ u2 ∧ k1.length = u1.length ∧ k2.length = u2.length ∧ Pairs (mixKind P w) rest ((k2.map Sum.inr).zip u2) ∧ kw = k1.zip u1) _ ?_ ?_ _ _ ⟨rfl, [], ks, [], us, rfl, rfl, rfl, l, pr, rfl⟩
  · rintro x rest kw s' ⟨rfl, k1, k2, u1, u2, rfl, rfl, l1, l2, pr2, rfl⟩
    match k2, u2, l2, pr2 with
    | [], [], _, pr2 => cases pr2
    | z :: k3, u :: u3, l2, pr2 =>
      cases pr2 with
      | cons h1 h2 h3 =>
        obtain ⟨hs, key, val⟩ := x
        rcases keyIs_shape (show keyIs (Sum.inr z) key = true from h1) with ⟨i, t, e1, e2⟩ | ⟨y, t, e1, e2⟩
        · cases e1
        · cases e1
          subst e2
          refine wpAny_pure ⟨rfl, k1 ++ [z], k3, u1 ++ [u], u3, by rw [List.append_assoc]; rfl, by rw [List.append_assoc]; rfl, by rw [List.length_append, List.length_append, l1]; rfl, by simpa using l2, h3, ?_⟩
          rw [List.zip_append l1]
          have e3 : val = u := h2
          rw [e3]
          rfl
  · rintro kw s' ⟨rfl, k1, k2, u1, u2, rfl, rfl, l1, l2, pr2, rfl⟩
    match k2, u2, l2, pr2 with
    | [], [], _, _ =>
      refine wpAny_pure ?_
      simpa using q
    | z :: k3, u :: u3, l2, pr2 => cases pr2
end
section
variable {X : Cx} {pins : List (Addr × Obj)} {σ : L2.St} {H : Hp} {s : Shared}
/-- f(**e): the dict of its keywords -/
theorem merged_kw {f : Value} {x : Sem Value} {Q : Addr → Shared → Prop} (h : wpAny (model X.prog X.w) X.A x (fun u s1 => ∃ b, u = .ref b ∧ wpAny (model X.prog X.w) X.A (mergeMapping s.heap.objs.size (.ref b) true) (fun _ s2 => Q s.heap.objs.size s2) (fun _ _ => False) s1) X.xe { s with heap := s.heap.push { cls := .type "dict", data := .dict #[] } }) :
    wpAny (model X.prog X.w) X.A (mergedKeywords f [(none, x)]) Q X.xe s := by
  unfold mergedKeywords
  refine wpAny_bind (wpAny_alloc (wpAny_bind (wpAny_holding ?_)))
  dsimp only
  rw [List.forIn_cons]
  refine wpAny_bind (wpAny_bind ?_)
  dsimp only
  rw [if_pos (by rfl)]
  refine wpAny_bind (wpAny_pure (wpAny_bind (wpAny_mono h (fun u s1 ⟨b, eu, hm⟩ => ?_) fun _ _ z => z)))
  subst eu
  refine wpAny_bind (wpAny_onRaise (wpAny_holding (wpAny_tryCatch (wpAny_onRaise (wpAny_mono hm (fun _ s2 q => wpAny_pure ?_) fun _ _ z => z.elim)))))
  dsimp only
  rw [List.forIn_nil]
  refine wpAny_pure ?_
  rw [if_pos (by rfl)]
  exact wpAny_pure (wpAny_pure q)
/-- the arguments of f(**e) -/
theorem args_kw {f : Value} {x : Sem Value} {Q : Args → Shared → Prop} (h : wpAny (model X.prog X.w) X.A (mergedKeywords f [(none, x)]) (fun d s1 => wpAny (model X.prog X.w) X.A (keywordsIn f d) (fun kw s2 => Q ⟨[], kw⟩ s2) X.xe s1) X.xe s) :
    wpAny (model X.prog X.w) X.A (evalArgs f true [] [(none, x)]) Q X.xe s := by
  unfold evalArgs
  dsimp only
  refine wpAny_bind (Calls.spliced_nil (wpAny_bind (wpAny_pure (wpAny_holding ?_))))
  rw [if_neg (by simp)]
  refine wpAny_bind (wpAny_mono h (fun d s1 h1 => ?_) fun _ _ z => z)
  dsimp only
  refine wpAny_bind (wpAny_pure (wpAny_bind (wpAny_holding (wpAny_mono h1 (fun kw s2 q => wpAny_pure q) fun _ _ z => z))))
/-- the call f(**e) -/
theorem call_kw {f : Value} {x : Sem Value} {pos : Pos} {Q : Value → Shared → Prop} (kf : PySem.W.keepIn X.K f = true) (h : wpAny (model X.prog X.w) X.A (evalArgs f true [] [(none, x)]) (fun a s1 => X.K.In s1.heap ∧ wpAny (model X.prog X.w) X.A (call f a.pos a.kw) Q X.xe s1) X.xe s) :
    wpAny (model X.prog X.w) X.A (callWith pos f [] [] [(none, x)]) Q X.xe s := by
  unfold callWith
  refine wpAny_bind (wpAny_holding (wpAny_mono h (fun a s1 h1 => wpAny_bind (wpAny_standAt ?_)) fun _ _ z => z))
  obtain ⟨k, hk, L⟩ := PySem.W.keeps_K kf _ h1.1
  refine wpAny_bind (L.here ?_)
  have fin : ∀ {t : Sem Value}, wpAny (model X.prog X.w) X.A t Q X.xe s1 → wpAny (model X.prog X.w) X.A (t >>= fun r => holding [r] point >>= fun _ => pure r) Q X.xe s1 :=
    fun ht => wpAny_bind (wpAny_mono ht (fun r s2 q => wpAny_bind (wpAny_holding (wpAny_point (wpAny_pure q)))) fun _ _ z => z)
  have mk : ∀ c : Value, wpAny (model X.prog X.w) X.A (callMarked c f ([] ++ a.pos) a.kw) Q X.xe s1 := fun c => by
    unfold callMarked
    exact Calls.wpAny_keep h1.2
  rcases hk with rfl | rfl | rfl
  · exact fin (mk _)
  · exact fin (wpAny_operating h1.2)
  · exact fin (wpAny_operating h1.2)
/-- C(**e), e a dict of just these texts in this order -/
def tMakeD (C : Addr) (sp : Sp) (gV : List Str → List V → List V → List V) (E : XK) (L : List (List Str)) (te : TE) : TE := fun σ H Q => ∀ d, H d = none → te σ (upd H d (.dK [])) fun x H1 => ∃ (ks : List Str) (p : Addr) (zs : List V), ks ∈ L ∧ x = .ref p ∧ d ≠ p ∧ H1 d = some (.dK []) ∧ Rd H1 p (.dK ((ks.map Sum.inr).zip zs)) ∧ zs.length = ks.length ∧
  ∀ y dy, upd H1 d (.dK ((ks.map Sum.inr).zip zs)) y = none → upd H1 d (.dK ((ks.map Sum.inr).zip zs)) dy = none → dy ≠ y → sp (gV ks [.ref y] zs) (upd (upd (upd H1 d (.dK ((ks.map Sum.inr).zip zs))) dy (.own y)) y (.ins C dy [])) (fun v H3 => v = .non ∧ Q (.ref y) H3) E
variable {CX : CXT} {k : Nat} {f C : Addr} {fd : FuncData} {ps : List Str} {L : List (List Str)} {sp : Sp} {E : XK} {x : Str} {p pos kp : Pos} {e : Expr} {te : TE} {gV : List Str → List V → List V → List V}
theorem kv_zip {ks : List Str} : ∀ {zs : List V} {vs : List (Key × Value)}, zs.length = ks.length → KV ((ks.map Sum.inr).zip zs) vs → ∃ us, vs = (ks.map Sum.inr).zip us ∧ Vals zs us := by
  induction ks with
  | nil =>
    intro zs vs l h
    match zs, l with
    | [], _ =>
      cases h
      exact ⟨[], rfl, .nil⟩
  | cons z ks ih =>
    intro zs vs l h
    match zs, l with
    | v :: zs, l =>
      cases h with
      | cons h1 h2 =>
        obtain ⟨us, e, r⟩ := ih (by simpa using l) h2
        rename_i b _
        obtain ⟨k2, u⟩ := b
        obtain ⟨e1, r1⟩ := h1
        have e1 : (Sum.inr z : Key) = k2 := e1
        exact ⟨u :: us, by rw [e, ← e1]; rfl, .cons r1 r⟩
theorem pe_makeD (M : Mk X.K C f) (F : FnOk X.prog X.w X.K X.mg X.base CX k f fd ps sp) (hr : Room (k + 1) X.A) (hg : Gl X x) (hm : X.mg x = some (.ref C)) (hb : ∀ ks ∈ L, ks.Nodup ∧ ks.length ≤ 1000 ∧ ∃ g : List Value → List Value → List Value, KBn X.K fd ps 1 ks g (gV ks)) (hx : Passes CX X E) (he : PE X e te)
    (hdb : (x == ("__debug__" : Str)) = false := by decide) (hkw : backToKw pos (keywordEach [⟨none, e, kp⟩] X.env) = [(none, do let v ← eval e X.env; standAt pos; pure v)] := by rfl) : PE X (.Call (.Name x p) [] [⟨none, e, kp⟩] pos) (tMakeD C sp gV E L te) := by
  refine ⟨fun pins s σ H Q I h => ?_⟩
  refine wpAny_Call_Name_kw (ld_glob I hg hm ?_ hdb)
  rw [hkw]
  show wpAny _ _ (callWith pos (.ref C) [] [] _) _ _ _
  have nd := I.hok.fresh (Nat.le_refl s.heap.objs.size)
  have I1 := I.laid (a := s.heap.objs.size) (o := .dK []) (h' := s.heap.push { cls := .type "dict", data := .dict #[] }) (t' := s.toks) (fun _ _ q => Heap.get?_push_of_some _ q) (Nat.le_refl _) (dk_empty s.heap I.big)
  refine call_kw M.kp (args_kw (merged_kw (wpAny_bind (thn (he.run pins _ σ _ _ I1 (h _ nd)) fun v s1 ⟨y, H1, J1, r1, ks, p, zs, hks, ey, dp, hd1, hp1, lz, q1⟩ => wpAny_bind (wpAny_standAt (wpAny_pure ⟨p, ?_, ?_⟩))))))
  · subst ey
    cases r1
    rfl
  obtain ⟨nks, few, g, hb⟩ := hb ks hks
  obtain ⟨z1, n1, v1, rel1, dd1⟩ := dk_of J1.hok hd1
  obtain ⟨z2, n2, v2, rel2, dd2⟩ := dk_rd J1.hok hp1
  cases rel1
  obtain ⟨us, rfl, rv⟩ := kv_zip lz rel2
  have ku : ks.length = us.length := lz.symm.trans rv.length
  have keys : ((ks.map (Sum.inr : Str → Key)).zip us).map (·.1) = ks.map Sum.inr := List.map_fst_zip (by rw [List.length_map]; omega)
  refine merge_new dp n2 dd1 dd2 ?_ (fun h' dd' _ hs => ?_) ?_
  · rw [List.nil_append, keys]
    unfold List.Nodup
    rw [List.pairwise_map]
    exact nks.imp fun h e => h (Sum.inr.inj e)
  · rw [List.nil_append] at dd'
    have hex : ∃ q, h'.get? s.heap.objs.size = some q := let ⟨q, _, _, hq, _⟩ := dd'; ⟨q, hq⟩
    have J2 := d_write (t' := s1.toks) J1 (by rw [hd1]; exact True.intro) hs hex (dk_new z2 n1 rel2 dd')
    obtain ⟨o, es, ep, ho, _, hd, _, hp, _⟩ := id dd'
    exact kw_in ho hd hp ku ⟨J2.kIn, run_makeK M F hr hb hx J2 .nil rv rfl lz q1⟩
  · rw [List.length_nil, List.length_zip, List.length_map]
    have h9 : sizeLine = 16777216 := by decide
    omega
end
end Mm

set_option Elab.async false
set_option linter.all false
set_option maxRecDepth 100000
set_option maxHeartbeats 2000000
namespace Kw
open PySem PySem.Spec PyProof.Rows L2 StX
/-! a def with a parameter **d, called with keywords -/
section
variable {P : Program} {w : World} {A : Around} {E : Value → Shared → Prop} {s : Shared}
theorem ns_put {d : Addr} {kvs : List (Key × Value)} {name : Str} {v : Value} {Q : Unit → Shared → Prop} (m : s.heap.DictOf (mixKind P w) d kvs) (hz : kvs.length ≤ 1000)
    (q : ∀ h', h'.DictOf (mixKind P w) d (stored kvs (Sum.inr name) v) → Heap.SameBut d s.heap h' → Q () { s with heap := h', toks := s.toks + 1 }) : wpAny (model P w) A (nsSet d name v) Q E s := fun Γ p _ => by
  obtain ⟨o, es, ep, ho, hc, hd, hk, hp, hn⟩ := m
  have iname : (mixKind P w).is (Sum.inr name) (.str name s.toks) = true := by
    show Value.isStrOf name (.str name s.toks) = true
    simp [Value.isStrOf]
  have same : (fun e : DictEntry => e.key.isStr name) = fun e => (mixKind P w).is (Sum.inr name) e.key := funext fun e => ((mixKind P w).strs (Sum.inr name) name s.toks e.key iname).symm
  have idx : (es.findIdx? fun e => (mixKind P w).is (Sum.inr name) e.key) = kvs.findIdx? fun kv => decide (kv.1 = Sum.inr name) := by
    rw [← hp.findIdx (Sum.inr name)]
    obtain ⟨l⟩ := es
    simp
  have noref : es.any (·.refKey) = false := by
    rw [Array.any_eq_false']
    intro e he
    obtain ⟨k, ik, _⟩ := hk e he
    have := (mixKind P w).byValue k _ ik
    obtain ⟨h1, key, v1⟩ := e
    cases key with
    | ref a => cases this
    | _ => simp [DictEntry.refKey]
  simp only [nsSet, strHash, Sem.wp_bind', Sem.wp_cmd_ask, Sem.wp_pure', Sem.wp_cmd_mkText]
  rw [Sem.wp_loadPart_of (model P w) Γ _ p { s with toks := s.toks + 1 } (o := o) _ ho]
  simp only [hd, aRefKeyMayBeTheName_eq, aRefKeyMayBeTheNameByArray, noref, Bool.and_false, Bool.false_eq_true, if_false, Sem.wp_cmd_updatePart]
  refine ⟨by rw [ho]; rfl, q _ ?_ (Heap.SameBut.update ..)⟩
  obtain ⟨c, d', dt, sl⟩ := o
  subst hd
  cases hi : es.findIdx? (·.key.isStr name) with
  | some i =>
    have hi2 : (es.findIdx? fun e => (mixKind P w).is (Sum.inr name) e.key) = some i := by rw [← same]; exact hi
    refine ⟨_, _, ep, Heap.get?_update_self _ ho (by simp only [Obj.putName_eq, Obj.putNameByArray, hi]; rfl), ?_, by simp only [Obj.putName_eq, Obj.putNameByArray, hi]; rfl, hk.modify _ _, ?_, ?_⟩
    · simp only [Obj.putName_eq, Obj.putNameByArray, hi]
      exact ⟨hc.1, hc.2.1, hc.2.2⟩
    · have there : (es.toList.findIdx? fun e => (mixKind P w).is (Sum.inr name) e.key) = some i := by
        rw [← hi2]
        obtain ⟨l⟩ := es
        simp
      have z := hp.modify hn there v
      rw [stored, if_pos (any_of_findIdx_some (idx ▸ hi2))]
      obtain ⟨l⟩ := es
      simpa using z
    · rw [stored, if_pos (any_of_findIdx_some (idx ▸ hi2)), keys_map_store]
      exact hn
  | none =>
    have hi2 : (es.findIdx? fun e => (mixKind P w).is (Sum.inr name) e.key) = none := by rw [← same]; exact hi
    have out : (Sum.inr name : Key) ∉ kvs.map (·.1) := not_mem_of_findIdx_none (idx ▸ hi2)
    have no : ¬ (kvs.any fun kv => decide (kv.1 = Sum.inr name)) = true := fun z => by
      obtain ⟨kv, h1, h2⟩ := List.any_eq_true.mp z
      exact out (List.mem_map.mpr ⟨kv, h1, of_decide_eq_true h2⟩)
    have hh : (if name.cps.isEmpty = true then 0 else reduceHash ((model P w).w.params.strHash name.cps)) = (mixKind P w).hash (Sum.inr name) := rfl
    refine ⟨_, _, ep + 1, Heap.get?_update_self _ ho (by simp only [Obj.putName_eq, Obj.putNameByArray, hi]; rfl), ?_, by simp only [Obj.putName_eq, Obj.putNameByArray, hi]; rfl, hk.push iname _, ?_, ?_⟩
    · simp only [Obj.putName_eq, Obj.putNameByArray, hi]
      exact ⟨hc.1, hc.2.1, hc.2.2⟩
    · have z := hp.append iname ((mixKind P w).hash (Sum.inr name)) v
      rw [stored, if_neg no]
      obtain ⟨l⟩ := es
      simpa using z
    · rw [stored, if_neg no, List.map_append, List.nodup_append]
      refine ⟨hn, by simp, fun x hx y hy e => ?_⟩
      rw [List.map_cons, List.map_nil, List.mem_singleton] at hy
      exact out ((show x = Sum.inr name from e.trans hy) ▸ hx)
end
theorem kv_of {ks : List Str} : ∀ {zs : List V} {us : List Value}, Vals zs us → KV ((ks.map (Sum.inr : Str → Key)).zip zs) ((ks.map Sum.inr).zip us) := by
  induction ks with
  | nil => intro zs us _; exact .nil
  | cons k ks ih =>
    intro zs us r
    cases r with
    | nil => exact .nil
    | cons r1 r2 => exact .cons ⟨rfl, r1⟩ (ih r2)
section
variable {CX : CXT} {P : Program} {w : World} {K : PySem.W.Frag} {mg : Str → Option Value} {base : Heap} {k : Nat} {f : Addr} {name qual : Str} {params : Arguments} {body : List Stmt} {scope : Scope} {dV kV doc pm cdv ct oc : Value} {an od : Option Addr} {osl : Array (Option Value)} {N ps ks : List Str} {sp : Sp}
/-- a def's promise, told with the keywords ks in a new dict behind the rest -/
def FnKw (P : Program) (w : World) (K : PySem.W.Frag) (mg : Str → Option Value) (base : Heap) (CX : CXT) (k : Nat) (f : Addr) (ks : List Str) (sp : Sp) : Prop :=
  ∀ (A : Around) (outer : List Env) (s : Shared) (H : Hp) (us : List Value) (vs : List V) (ws : List Value) (zs : List V) (Q : VK) (E : XK), Room k A → Env0 P w K mg base A outer s H → Vals vs us → Vals zs ws → zs.length = ks.length →
    (∀ d, H d = none → sp (vs ++ [.ref d]) (upd H d (.dK ((ks.map Sum.inr).zip zs))) Q E) → codeAny (model P w) A (.call (.ref f) ⟨us, ks.zip ws⟩) (CR CX outer P w H s Q E) s
/-- the objects that stood ahead of a def's body, and one more -/
theorem env_more {A : Around} {outer : List Env} {s : Shared} {H : Hp} {u : HO} {h' : Heap} {t' : Nat} (e0 : Env0 P w K mg base A outer s H) (kp : ∀ b x, s.heap.get? b = some x → h'.get? b = some x) (up : s.heap.objs.size ≤ h'.objs.size)
    (new : ObjOk P w (upd H s.heap.objs.size u) h' s.heap.objs.size u) : Env0 P w K mg base A outer { s with heap := h', toks := t' } (upd H s.heap.objs.size u) := by
  refine ⟨e0.frames, e0.mod, fun b x e => ⟨kp b x (e0.bs b x e).1, ?_⟩, Nat.le_trans e0.bsz up, Heap.FunFrames.of_keeps (fun b x e _ => ⟨x, kp b x e, rfl⟩) e0.funs, fun b hb => ?_, e0.hok.laid kp (Nat.le_refl _) new, e0.bare⟩
  · have lt := Heap.lt_size (e0.bs b x e).1
    rw [upd_ne (Nat.ne_of_lt lt)]
    exact (e0.bs b x e).2
  · obtain ⟨_, x, hx, _⟩ := e0.funs.mem hb
    rw [upd_ne (Nat.ne_of_lt (Heap.lt_size hx))]
    exact e0.frf b hb
/-- def f(a, .., **d), called with the keywords ks -/
theorem fn_kw {pd : Str} (lk : K.lookup f = some ⟨oc, od, .func (PySem.W.fnOf name qual params body scope dV kV doc pm an cdv ct), osl⟩) (hcd : PySem.W.codeIn K cdv qual = true) (S : FnScope N (ps ++ [pd]) scope) (hCX : CXUp CX) (nks : ks.Nodup) (few : ks.length ≤ 100)
    (len : ∀ vs H Q E, sp vs H Q E → vs.length = (ps ++ [pd]).length)
    (hb : ∀ us ws : List Value, us.length = ps.length → ws.length = ks.length → bindArgs (PySem.W.fnOf name qual params body scope dV kV doc pm an cdv ct) ⟨us, ks.zip ws⟩ =
      ((alloc ({ cls := .type "dict", data := .dict #[] } : Obj) : Sem Addr) >>= fun d => (forIn (ks.zip ws) PUnit.unit fun kv (_ : PUnit) => (do nsSet d kv.1 kv.2; pure (ForInStep.yield PUnit.unit) : Sem (ForInStep PUnit))) >>= fun _ => pure (ps.zip us ++ [(pd, Value.ref d)])))
    (hbody : ∀ (A : Around) (outer : List Env) (s : Shared) (H : Hp) (vs : List V) (Q : VK) (E : XK), Room k (A.deeper (envOfC qual scope s.heap.objs.size f cdv)) → sp vs H Q E →
      ∃ t, PSs (cxOf CX P w K mg base N qual scope f cdv A outer s H E) body t ∧ t { nx := fun _ H' => Q .non H', rt := Q } (start N vs) H) : FnKw P w K mg base CX (k + 1) f ks sp := by
  intro A outer s H us vs ws zs Q E hr e0 r rz lz hsp
  have hn : H s.heap.objs.size = Option.none := e0.hok.fresh (Nat.le_refl _)
  have lw : ws.length = ks.length := rz.length.symm.trans lz
  have lv : us.length = ps.length := by
    have z := len _ _ _ _ (hsp _ hn)
    rw [List.length_append, List.length_append] at z
    rw [← r.length]
    exact Nat.add_right_cancel z
  refine run_bnd lk hcd S hr e0 (G := fun xs H2 => ∃ d, H d = Option.none ∧ xs = vs ++ [V.ref d] ∧ H2 = upd H d (.dK ((ks.map Sum.inr).zip zs))) (fun A' Ex Q' h => ?_) fun s2 H2 xs ⟨d, hd, ex, eH⟩ hr' => ?_
  · rw [hb us ws lv lw]
    refine wpAny_bind (wpAny_alloc (wpAny_bind ?_))
    have here : (s.heap.push ({ cls := .type "dict", data := .dict #[] } : Obj)).DictOf (mixKind P w) s.heap.objs.size [] := ⟨_, _, _, Heap.get?_push_size _ rfl, ⟨rfl, rfl, rfl⟩, rfl, fun e he => by simp at he, .nil, List.nodup_nil⟩
    refine wpAny_forIn_list _ (fun rest _ s' => ∃ (h' : Heap) (t' : Nat) (k1 k2 : List Str) (u1 u2 : List Value), s' = { s with heap := h', toks := t' } ∧ ks = k1 ++ k2 ∧ ws = u1 ++ u2 ∧ k1.length = u1.length ∧ k2.length = u2.length ∧ rest = k2.zip u2 ∧ h'.DictOf (mixKind P w) s.heap.objs.size ((k1.map Sum.inr).zip u1) ∧ Heap.SameBut s.heap.objs.size (s.heap.push ({ cls := .type "dict", data := .dict #[] } : Obj)) h') _ ?_ ?_ _ _
      ⟨_, s.toks, [], ks, [], ws, rfl, rfl, rfl, rfl, lw.symm, rfl, here, Heap.SameBut.refl _ _⟩
    · rintro kv rest _ s' ⟨h', t', k1, k2, u1, u2, rfl, rfl, rfl, l1, l2, er, dd, sb⟩
      match k2, u2, l2, er with
      | [], [], _, er => cases er
      | z :: k3, u :: u3, l2, er =>
        cases er
        have out : (Sum.inr z : Key) ∉ ((k1.map (Sum.inr : Str → Key)).zip u1).map (·.1) := fun m => by
          rw [List.map_fst_zip (by rw [List.length_map]; omega)] at m
          obtain ⟨y, hy, e⟩ := List.mem_map.mp m
          cases e
          exact (List.nodup_append.mp nks).2.2 z hy z List.mem_cons_self rfl
        have no : ¬ (((k1.map (Sum.inr : Str → Key)).zip u1).any fun kv => decide (kv.1 = Sum.inr z)) = true := fun q => by
          obtain ⟨kv, h1, h3⟩ := List.any_eq_true.mp q
          exact out (List.mem_map.mpr ⟨kv, h1, of_decide_eq_true h3⟩)
        refine wpAny_bind (ns_put dd ?_ fun h2 dd2 sb2 => wpAny_pure ⟨h2, _, k1 ++ [z], k3, u1 ++ [u], u3, rfl, by rw [List.append_assoc]; rfl, by rw [List.append_assoc]; rfl, by rw [List.length_append, List.length_append, l1]; rfl, by simpa using l2, rfl, ?_, sb.trans sb2⟩)
        · rw [List.length_zip, List.length_map]
          rw [List.length_append] at few
          omega
        · rw [stored, if_neg no] at dd2
          rw [List.map_append, List.zip_append (by rw [List.length_map]; exact l1)]
          exact dd2
    · rintro _ s' ⟨h', t', k1, k2, u1, u2, rfl, rfl, rfl, l1, l2, er, dd, sb⟩
      match k2, u2, l2, er with
      | z :: k3, u :: u3, l2, er => cases er
      | [], [], _, _ =>
        rw [List.append_nil] at *
        have kp : ∀ b x, s.heap.get? b = some x → h'.get? b = some x := fun b x e => by
          have ne : b ≠ s.heap.objs.size := Nat.ne_of_lt (Heap.lt_size e)
          exact (sb.2 b ne).trans (Heap.get?_push_of_some _ e)
        have new : ObjOk P w (upd H s.heap.objs.size (.dK ((k1.map Sum.inr).zip zs))) h' s.heap.objs.size (.dK ((k1.map Sum.inr).zip zs)) := dk_new (by
          rw [List.length_zip, List.length_map]
          have h9 : sizeLine = 16777216 := by decide
          omega) (beq_false_of_ne (Nat.ne_of_gt (env0_big e0))) (kv_of rz) dd
        have up : s.heap.objs.size ≤ h'.objs.size := by
          obtain ⟨o, es, ep, ho, _⟩ := dd
          exact Nat.le_of_lt (Heap.lt_size ho)
        have un : Un (frs outer) [] H (upd H s.heap.objs.size (.dK ((k1.map Sum.inr).zip zs))) s.heap h' := Un.laid kp (Nat.le_refl _) hn
        have z := h _ _ (vs ++ [V.ref s.heap.objs.size]) (us ++ [Value.ref s.heap.objs.size]) (env_more (t' := t') e0 kp up new) un rfl (fun e s' => hCX outer s H _ _ E e s' un kp rfl) (r.append (.cons rfl .nil)) (by rw [List.length_append, List.length_append, r.length, lv] <;> rfl) ⟨_, hn, rfl, rfl⟩
        rw [List.zip_append lv.symm] at z
        exact wpAny_pure z
  · subst ex eH
    exact hbody A outer s2 _ _ Q E hr' (hsp d hd)
end
section
variable {X : Cx} {CX : CXT} {k : Nat} {C f : Addr} {ks : List PySem.Str} {sp : Sp} {E : XK} {o : Expr} {kws : List Keyword} {m : PySem.Str} {pos apos : Pos} {ta : TE} {tk : TA} {pl : Sem Bool}
/-- o.m(k = v, ..), the keywords into the def's **d -/
def tMethKw (C : Addr) (m : PySem.Str) (ks : List PySem.Str) (sp : Sp) (E : XK) (ta : TE) (tk : TA) : TE := fun σ H Q => ta σ H fun x G => ∃ (a dx : Addr) (fs : List (PySem.Str × V)), x = .ref a ∧ G a = some (.ins C dx fs) ∧ fs.lookup m = none ∧ tk σ G fun zs G2 => zs.length = ks.length ∧ ∀ d, G2 d = none → sp [.ref a, .ref d] (upd G2 d (.dK ((ks.map Sum.inr).zip zs))) Q E
theorem pe_methKw (he : PE X o ta) (c : Cls X.K C) (hm : Meth X.K C m f) (F : FnKw X.prog X.w X.K X.mg X.base CX k f ks sp) (hr : Room k X.A) (hx : Passes CX X E) (hkw : PK X kws tk)
    (hall : (backToKw pos (keywordEach kws X.env)).all (·.1.isSome) = true := by rfl) (hks : (backToKw pos (keywordEach kws X.env)).filterMap (·.1) = ks := by rfl)
    (hpl : ((backTo pos (starEach [] X.env)).any (·.1) || (backToKw pos (keywordEach kws X.env)).any (·.1.isNone)) = false := by rfl)
    (ht : eval (.Call (.Attribute o m apos) [] kws pos) X.env = (do
      let ov ← eval o X.env
      standAt apos.atName
      let (f, first) ← holding [ov] (getMethod ov m pl)
      callWith pos f first (backTo pos (starEach [] X.env)) (backToKw pos (keywordEach kws X.env))) := by rfl) : PE X (.Call (.Attribute o m apos) [] kws pos) (tMethKw C m ks sp E ta tk) := ⟨fun pins s σ H Q I h => by
  refine PySem.W.methodCall_KW (pl := pl) (thn (he.run pins s σ H _ I h) fun u s1 ⟨x, G, I1, rx, a, dx, fs, ex, ea, l, q⟩ => ?_) ht
  subst ex
  cases rx
  refine getmeth_ok I1 ea c hm l ?_
  refine PySem.W.callWith_KW0 (first := [.ref a]) (h₀ := X.base) I1.ok.mod.kin hm.kp hall (thn (hkw.run pos pins s1 σ G _ I1 q) fun ws s2 ⟨zs, G2, I2, rz, l2, q2⟩ => ⟨I2.kIn, ?_⟩) hpl
  rw [hks]
  refine wpAny_call (codeAny_mono (F X.A X.stack s2 G2 [.ref a] [.ref a] ws zs Q E hr I2.env0 (.cons (show RelV (.ref a) (Value.ref a) from rfl) .nil) rz l2 q2) fun r s' back => ?_)
  match r, back with
  | .error e, back => exact hx pins σ G2 s2 e s' I2 back
  | .ok (.ret u), back => exact I2.after back
  | .ok .next, back => exact back.elim
  | .ok .brk, back => exact back.elim
  | .ok .cont, back => exact back.elim⟩
end
end Kw

set_option Elab.async false
set_option linter.all false
set_option maxRecDepth 100000
set_option maxHeartbeats 40000000
namespace Lw
open PySem PySem.Spec PyProof.Rows L2
abbrev sNamed : Stmt := inClass (top 7) 1
abbrev sHabE : Stmt := inClass (top 7) 3
section
variable {P : Program} {w : World} {K : PySem.W.Frag} {mg : Str → Option Value} {base : Heap}
/-! habits named, compared, turned -/
theorem told_merge (y : Hv) : mergeK [] (toldV y) = toldV y := rfl
def spNamed (CH : Addr) : Sp := fun vs H Q _ => ∃ (h : Addr) (y : Hv), vs = [.ref h] ∧ HabAtV CH H h y ∧ ∀ q G, Same H G → H q = none → G q = some (.dK (toldV y)) → Q (.ref q) G
theorem scNamed : FnScope ["self"] ["self"] (defScope sNamed) := ⟨rfl, rfl, rfl, by decide +kernel, rfl, by decide +kernel, by decide +kernel⟩
theorem ok_named {CH f : Addr} {fd : FuncData} (F : MethD K "named" "Habits.named" sNamed f fd) (T : TxtHb K CH) : FnOk P w K mg base CX0 1 f fd ["self"] (spNamed CH) := by
  refine F.ok scNamed (fun vs H Q E h => ?_) (fun cdv A outer s H vs Q E hr h => ?_)
  · obtain ⟨h, y, rfl, _⟩ := h
    rfl
  · obtain ⟨h, y, rfl, ⟨dx, hh⟩, k⟩ := h
    refine ⟨_, PSs.nox (pss_one (ps_ret (pe_disp (pps_cons pe_str (pe_fld (pv 0) (by rfl)) (pps_cons pe_str (pe_fld (pv 0) (by rfl)) (pps_cons pe_str (pe_fld (pv 0) (by rfl)) (pps_cons pe_str (pe_fld (pv 0) (by rfl)) pps_nil)))) (by rfl) (by rfl) (fun z => by cases z) (by decide)))), ?_⟩
    intro t nt
    have sT := Lw.Same.new (o := .dK []) (Same.refl H) nt
    have h2 := sT _ _ hh
    refine ⟨_, rfl, h, CH, dx, _, y.pr, rfl, h2, T.cl, T.n1, rfl, _, rfl, h, CH, dx, _, y.la, rfl, h2, T.cl, T.n2, rfl, _, rfl, h, CH, dx, _, y.go, rfl, h2, T.cl, T.n3, rfl, _, rfl, h, CH, dx, _, y.sh, rfl, h2, T.cl, T.n4, rfl, upd_same, toldV y, rfl, (by show 4 ≤ 15; decide), ?_⟩
    exact k t _ (same_at nt sT) nt upd_same
def FlatH (y : Hv) : Prop := flatV y.pr = true ∧ flatV y.la = true ∧ flatV y.go = true ∧ flatV y.sh = true
theorem FlatH.all {y : Hv} (h : FlatH y) : ∀ p ∈ toldV y, flatV p.2 = true := fun p hp => by
  obtain ⟨h1, h2, h3, h4⟩ := h
  rcases List.mem_cons.mp hp with rfl | hp
  · exact h1
  rcases List.mem_cons.mp hp with rfl | hp
  · exact h2
  rcases List.mem_cons.mp hp with rfl | hp
  · exact h3
  rcases List.mem_cons.mp hp with rfl | hp
  · exact h4
  cases hp
theorem told_nodup (y : Hv) : ((toldV y).map (·.1)).Nodup := by
  show ([Sum.inr "present", Sum.inr "lacking", Sum.inr "gone", Sum.inr "shared"] : List Key).Nodup
  decide +kernel
def sameH (y z : Hv) : Bool := sameK (toldV y) (toldV z)
/-- what habits are compared with that is none -/
inductive NoHab (H : Hp) : V → Prop where
  | non : NoHab H .non
  | str (z : Str) : NoHab H (.str z)
  | dic {p : Addr} {kvs : List (Key × V)} (h : H p = some (.dK kvs)) : NoHab H (.ref p)
  | lst {p : Addr} {xs : List V} (h : H p = some (.lst xs)) : NoHab H (.ref p)
def spHabE (CH : Addr) : Sp := fun vs H Q _ => ∃ (h1 : Addr) (v : V) (y : Hv), vs = [.ref h1, v] ∧ HabAtV CH H h1 y ∧ FlatH y ∧ ((∃ h2 z, v = .ref h2 ∧ HabAtV CH H h2 z ∧ FlatH z ∧ ∀ G, Same H G → Q (.bl (sameH y z)) G) ∨ (NoHab H v ∧ Q (.bl false) H))
theorem scHabE : FnScope ["self", "other"] ["self", "other"] (defScope sHabE) := ⟨rfl, rfl, rfl, by decide +kernel, rfl, by decide +kernel, by decide +kernel⟩
structure KitH (K : PySem.W.Frag) (CH : Addr) : Prop where
  non : PySem.W.kitOne K (.type "NoneType") (.ref CH) = some false
  str : PySem.W.kitOne K (.type "str") (.ref CH) = some false
  dict : PySem.W.kitOne K (.type "dict") (.ref CH) = some false
  list : PySem.W.kitOne K (.type "list") (.ref CH) = some false
structure TxtHc (K : PySem.W.Frag) (CH : Addr) : Prop where
  cl : Cls K CH
  ha : PySem.W.findIn K (.ref CH) "__class__" = some (some (.builtin "object.__class__"))
  hn : PySem.W.specialIn K (.builtin "object.__class__") "__get__" = some (some (.builtin "getset_descriptor.__get__"))
  ht : PySem.W.takesIn K (.builtin "object.__class__") = some true
  hm : PySem.W.mroIn K CH (.type "object") = some true
theorem kit_me {K : PySem.W.Frag} {D : Addr} : PySem.W.kitOne K (.ref D) (.ref D) = some true := by
  unfold PySem.W.kitOne
  rw [if_pos (beq_self_eq_true _)]
theorem ok_habE {CH f fN : Addr} {fd fdN : FuncData} (F : MethD K "__eq__" "Habits.__eq__" sHabE f fd) (T : TxtHc K CH) (KH : KitH K CH) (gH : mg "Habits" = some (.ref CH)) (hi : mg "isinstance" = none) (MN : Meth K CH "named" fN) (FN : FnOk P w K mg base CX0 1 fN fdN ["self"] (spNamed CH)) (bN : Binds K fdN ["self"] []) : FnOk P w K mg base CX0 2 f fd ["self", "other"] (spHabE CH) := by
  refine F.ok scHabE (fun vs H Q E h => ?_) (fun cdv A outer s H vs Q E hr h => ?_)
  · obtain ⟨h1, v, y, rfl, _⟩ := h
    rfl
  · obtain ⟨h1, v, y, rfl, ⟨d1, e1⟩, fy, hv⟩ := h
    refine ⟨_, PSs.nox (pss_one (ps_ret (pe_and (pe_callB call_isi (by rfl) hi (by decide +kernel) (pa_cons (pv 1) (pa_cons (pe_glob (v := .ref CH) rfl gH rfl) pa_nil)))
      (pe_one (pe_cmpR (r := rEqDF) (by exact op_eq_dF hr.units) (pe_meth0 (pv 0) T.cl MN FN hr bN .nil pass0) (pe_meth0 (pv 1) T.cl MN FN hr bN .nil pass0) (nomark _)))))), ?_⟩
    rcases hv with ⟨h2, z, rfl, ⟨d2, e2⟩, fz, k⟩ | ⟨no, k⟩
    · refine ⟨_, rfl, _, _, _, _, true, rfl, .own CH, .base (.ins e2 T.cl T.ha T.hn T.ht T.hm), kit_me, true, rfl, it_bt rfl ?_⟩
      refine ⟨_, rfl, h1, d1, _, rfl, e1, rfl, h1, y, rfl, ⟨d1, e1⟩, fun q1 G1 s1 n1 g1 => ?_⟩
      refine ⟨_, rfl, h2, d2, _, rfl, s1 _ _ e2, rfl, h2, z, rfl, ⟨d2, s1 _ _ e2⟩, fun q2 G2 s2 n2 g2 => ?_⟩
      exact ⟨q1, q2, _, _, rfl, rfl, s2 _ _ g1, g2, told_nodup y, fy.all, fz.all, k G2 (s1.trans s2)⟩
    · cases no with
      | non => exact ⟨_, rfl, _, _, _, _, false, rfl, .own CH, ty_non, KH.non, false, rfl, itFb rfl k⟩
      | str z => exact ⟨_, rfl, _, _, _, _, false, rfl, .own CH, ty_str z, KH.str, false, rfl, itFb rfl k⟩
      | dic h => exact ⟨_, rfl, _, _, _, _, false, rfl, .own CH, .base (.dK h), KH.dict, false, rfl, itFb rfl k⟩
      | lst h => exact ⟨_, rfl, _, _, _, _, false, rfl, .own CH, .base (.lst h), KH.list, false, rfl, itFb rfl k⟩
end
end Lw

set_option Elab.async false
set_option linter.all false
set_option maxRecDepth 100000
set_option maxHeartbeats 40000000
namespace Lw
open PySem PySem.Spec PyProof.Rows L2
abbrev sTurnH : Stmt := inClass (top 7) 2
section
variable {P : Program} {w : World} {K : PySem.W.Frag} {mg : Str → Option Value} {base : Heap}
/-! turned(**habits) -/
def spTurnH (CH CB : Addr) : Sp := fun vs H Q E => ∃ (p d a : Addr) (y y' : Hv) (more : List (Key × V)), vs = [.ref p, .ref d] ∧ HabAtV CH H p y ∧ H d = some (.dK more) ∧ mergeK (toldV y) more = toldV y' ∧ more.length ≤ 4 ∧ PlH a H y' ∧
  (∀ z r, wrongs y' = z :: r → ∀ d G, H d = none → Same H G → G d = some (.xd (habF z)) → E (.ref CB) (some d) G) ∧ (wrongs y' = [] → ∀ h G, Same H G → H h = none → HabAtV CH G h y' → Q (.ref h) G)
abbrev nTurnH : List Str := ["self", "habits", "told"]
theorem scTurnH : FnScope nTurnH ((["self"] : List Str) ++ [("habits" : Str)]) (defScope sTurnH) := ⟨rfl, rfl, rfl, by decide +kernel, rfl, by decide +kernel, by decide +kernel⟩
abbrev psH : List Str := ["self", "present", "lacking", "gone", "shared"]
theorem hb_4 {f : Addr} {fd : FuncData} (F : HabD K f fd) : ∃ mv : List Value, KBn K fd psH 1 ["present", "lacking", "gone", "shared"] (fun us ws => us ++ (ws ++ mv)) (fun vs zs => vs ++ (zs ++ [])) :=
  F.kbinds0 1 ["present", "lacking", "gone", "shared"] [] (fun us mv ws => us ++ (ws ++ mv)) (fun z => by cases z) (fun q h => by cases h) (fun a b c => a.append (c.append b)) fun D doc pm an cdv ct us mv ws h1 h2 h3 => match us, h1, mv, h2, ws, h3 with
    | [_], _, [], _, [_, _, _, _], _ => rfl
theorem keep_ins3 {H G : Hp} {x dx : Addr} {o u : HO} (hx : H x = none) (hd : H dx = none) (k : Keep x (upd (upd H dx o) x u) G) : Same H G := fun b z h => by
  refine k b z (ne_of_none h hx) ?_
  rw [upd_ne (ne_of_none h hx), upd_ne (ne_of_none h hd)]
  exact h
theorem same_ins3 {H : Hp} {x dx : Addr} {o u : HO} (hx : H x = none) (hd : H dx = none) : Same H (upd (upd H dx o) x u) := fun b z h => by
  rw [upd_ne (ne_of_none h hx), upd_ne (ne_of_none h hd)]
  exact h
/-- what the binding of turned's keywords comes to -/
def KwB (ks : List Str) : Prop := ∀ (kV doc pm : Value) (an : Option Addr) (cdv ct : Value) (us ws : List Value), us.length = (["self"] : List Str).length → ws.length = ks.length → bindArgs (PySem.W.fnOf "turned" "Habits.turned" (defArgs sTurnH) (defBody sTurnH) (defScope sTurnH) .none kV doc pm an cdv ct) ⟨us, ks.zip ws⟩ =
  ((alloc ({ cls := .type "dict", data := .dict #[] } : Obj) : Sem Addr) >>= fun d => (forIn (ks.zip ws) PUnit.unit fun kv (_ : PUnit) => (do nsSet d kv.1 kv.2; pure (ForInStep.yield PUnit.unit) : Sem (ForInStep PUnit))) >>= fun _ => pure ((["self"] : List Str).zip us ++ [(("habits" : Str), Value.ref d)]))
theorem kwb0 : KwB [] := fun kV doc pm an cdv ct us ws h1 h2 => match us, h1, ws, h2 with
  | [_], _, [], _ => rfl
theorem kwb1 (z : Str) (h : z ∈ habNames) : KwB [z] := by
  rcases List.mem_cons.mp h with rfl | h
  · exact fun kV doc pm an cdv ct us ws h1 h2 => match us, h1, ws, h2 with
      | [_], _, [_], _ => rfl
  rcases List.mem_cons.mp h with rfl | h
  · exact fun kV doc pm an cdv ct us ws h1 h2 => match us, h1, ws, h2 with
      | [_], _, [_], _ => rfl
  rcases List.mem_cons.mp h with rfl | h
  · exact fun kV doc pm an cdv ct us ws h1 h2 => match us, h1, ws, h2 with
      | [_], _, [_], _ => rfl
  rcases List.mem_cons.mp h with rfl | h
  · exact fun kV doc pm an cdv ct us ws h1 h2 => match us, h1, ws, h2 with
      | [_], _, [_], _ => rfl
  cases h
theorem kwb2 : KwB ["shared", "present"] := fun kV doc pm an cdv ct us ws h1 h2 => match us, h1, ws, h2 with
  | [_], _, [_, _], _ => rfl
theorem kwb3 : KwB ["gone", "lacking"] := fun kV doc pm an cdv ct us ws h1 h2 => match us, h1, ws, h2 with
  | [_], _, [_, _], _ => rfl
theorem kwb4 : KwB ["shared", "gone", "lacking", "present"] := fun kV doc pm an cdv ct us ws h1 h2 => match us, h1, ws, h2 with
  | [_], _, [_, _, _, _], _ => rfl
theorem ok_turnH {CH CB f fH fN : Addr} {fd fdH fdN : FuncData} {ks : List Str} (F : MethD K "turned" "Habits.turned" sTurnH f fd) (KB : KwB ks) (nks : ks.Nodup) (few : ks.length ≤ 100) (cl : Cls K CH) (MN : Meth K CH "named" fN) (FN : FnOk P w K mg base CX0 1 fN fdN ["self"] (spNamed CH)) (bN : Binds K fdN ["self"] [])
    (MH : Mk K CH fH) (DH : HabD K fH fdH) (FH : FnOk P w K mg base (L2.CX P w) 4 fH fdH psH (spHabV CH CB)) (gH : mg "Habits" = some (.ref CH)) : Kw.FnKw P w K mg base (L2.CX P w) 6 f ks (spTurnH CH CB) := by
  obtain ⟨oc, od, dV, kV, doc, pm, an, cdv, ct, osl, rfl, lk, hcd, hD, hK⟩ := F.ex
  rcases hD with ⟨_, rfl⟩ | ⟨e, _⟩
  rotate_left
  · exact absurd rfl e
  obtain ⟨m5, k5⟩ := hb_4 DH
  refine Kw.fn_kw (ps := ["self"]) (pd := "habits") lk hcd scTurnH StX.cxUp nks few (fun vs H Q E h => ?_) (fun us ws h1 h2 => KB kV doc pm an cdv ct us ws h1 h2) (fun A outer s H vs Q E hr h => ?_)
  · obtain ⟨p, d, a, y, y', more, rfl, _⟩ := h
    rfl
  · obtain ⟨p, d, a, y, y', more, rfl, hab, hd, hm, lm, py, kE, k⟩ := h
    have nd := scTurnH.nd
    have h1 : Room 1 _ := hr.mono (by decide)
    have pE : Passes (L2.CX P w) (cxOf (L2.CX P w) P w K mg base nTurnH "Habits.turned" (defScope sTurnH) f cdv A outer s H E) E := L2.passes_call (W := fun cls d _ G => E cls d G) (L2.takes_of rfl rfl rfl rfl) (fun _ _ _ _ h => h)
    have hL : ∀ ks ∈ [habNames], ks.Nodup ∧ ks.length ≤ 1000 ∧ ∃ g : List Value → List Value → List Value, KBn K fdH psH 1 ks g ((fun _ vs zs => vs ++ (zs ++ [])) ks) := fun ks hk => by
      rw [List.mem_singleton.mp hk]
      exact ⟨by decide, by decide, _, k5⟩
    refine ⟨_, pss_cons (ps_set (i := 2) nd rfl (Or.inl rfl) (Mm.pe_two (pe_meth0 (pv 0) cl MN FN h1 bN .nil pass0) (pv 1))) (pss_one (ps_ret (Mm.pe_makeD (L := [habNames]) (gV := fun _ vs zs => vs ++ (zs ++ [])) MH FH hr (by rfl) gH hL pE (pv 2)))), ?_⟩
    obtain ⟨dx, hp⟩ := hab
    refine sq_set (fun x G => ∃ q, x = .ref q ∧ Same H G ∧ G q = some (.dK (toldV y'))) (fun Q' q => ?_) ?_
    · intro d0 n0
      have s0 := Lw.Same.new (o := .dK []) (Same.refl H) n0
      have g0 : (upd H d0 (.dK [])) d0 = some (.dK []) := upd_same
      refine ⟨_, rfl, p, dx, _, rfl, s0 _ _ hp, rfl, p, y, rfl, ⟨dx, s0 _ _ hp⟩, fun q1 G1 s1 n1 g1 => ?_⟩
      have e1 : d0 ≠ q1 := ne_of_none g0 n1
      have kU : ∀ o b u, b ≠ d0 → G1 b = some u → upd G1 d0 o b = some u := fun o b u ne e => by rw [upd_ne ne]; exact e
      have hd1 := s1 _ _ (s0 _ _ hd)
      have dn : d ≠ d0 := ne_of_none hd n0
      refine ⟨q1, toldV y, rfl, e1, s1 _ _ g0, .inl g1, _, rfl, d, more, rfl, dn.symm, upd_same, .inl (kU _ _ _ dn hd1), by show 4 + more.length ≤ 1000; omega, ?_⟩
      refine q _ _ ⟨d0, rfl, fun b u e => ?_, ?_⟩
      · rw [upd_ne (ne_of_none e n0), upd_ne (ne_of_none e n0)]
        exact s1 _ _ (s0 _ _ e)
      · rw [upd_same]
        show some (HO.dK (mergeK (toldV y) more)) = _
        rw [hm]
    rintro _ G ⟨q, rfl, sG, gq⟩
    intro d2 n2
    have dq : d2 ≠ q := (ne_of_none gq n2).symm
    refine ⟨_, rfl, habNames, q, [y'.pr, y'.la, y'.go, y'.sh], List.mem_singleton.mpr rfl, rfl, dq, upd_same, .inl (by rw [upd_ne dq.symm]; exact gq), rfl, fun yb dy ny ndy ne => ?_⟩
    have s2 := Lw.Same.new (o := .dK []) (Same.refl G) n2
    have s3 : Same G (upd (upd G d2 (.dK [])) d2 (.dK ((habNames.map Sum.inr).zip [y'.pr, y'.la, y'.go, y'.sh]))) := fun b u e => by
      rw [upd_ne (ne_of_none e n2)]
      exact s2 _ _ e
    have sA := sG.trans s3
    have sI := same_ins3 (o := .own yb) (u := .ins CH dy []) ny ndy
    exact ⟨yb, dy, a, y', rfl, upd_same, py.same (sA.trans sI), fun z r e d G2 nd s g => kE z r e d G2 (none_of_same (sA.trans sI) nd) ((sA.trans sI).trans s) g, fun e G2 kG hab => ⟨rfl, k e yb G2 (sA.trans (keep_ins3 ny ndy kG)) (none_of_same sA ny) hab⟩⟩
end
end Lw

set_option Elab.async false
set_option linter.all false
set_option maxRecDepth 100000
set_option maxHeartbeats 40000000
namespace Lw
open PySem PySem.Spec PyProof.Rows L2
abbrev sMade : Stmt := top 16
abbrev sTurned34 : Stmt := top 17
section
variable {P : Program} {w : World} {K : PySem.W.Frag} {mg : Str → Option Value} {base : Heap}
/-! the law's words: plans, habits made, turned, asked -/
def RightH (y : Hv) : Prop := wrongs y = []
abbrev PlanD (G : Hp) (d : Addr) (y : Hv) : Prop := G d = some (.dK (toldV y))
theorem right_pl {a : Addr} {H : Hp} {y : Hv} (h : RightH y) : PlH a H y := by
  have g := wrongs_nil.mp h
  have s : ∀ n ∈ habNames, ∃ z, y.of n = .str z := fun n hn => by
    have e := g n hn
    unfold gd at e
    generalize y.of n = v at e
    cases v with
    | str z => exact ⟨z, rfl⟩
    | _ => cases e
  obtain ⟨z1, e1⟩ := s "present" (by decide)
  obtain ⟨z2, e2⟩ := s "lacking" (by decide)
  obtain ⟨z3, e3⟩ := s "gone" (by decide)
  obtain ⟨z4, e4⟩ := s "shared" (by decide)
  have e1 : y.pr = .str z1 := e1
  have e2 : y.la = .str z2 := e2
  have e3 : y.go = .str z3 := e3
  have e4 : y.sh = .str z4 := e4
  exact ⟨e1 ▸ .str z1, e2 ▸ .str z2, e3 ▸ .str z3, e4 ▸ .str z4⟩
theorem right_flat {y : Hv} (h : RightH y) : FlatH y := by
  have p : ∀ {v : V}, PlV 0 (fun _ => none) v → flatV v = true := fun {v} h => by
    cases h with
    | str z => rfl
    | non => rfl
    | int i => rfl
    | bl b => rfl
    | box n b =>
      cases b with
      | lst h => cases h
      | tup h => cases h
      | dic h => cases h
  obtain ⟨h1, h2, h3, h4⟩ := right_pl (a := 0) (H := fun _ => none) h
  exact ⟨p h1, p h2, p h3, p h4⟩
def GivD (H : Hp) (g : Addr) (x : Hv) : Prop := ∃ kvs, H g = some (.dK kvs) ∧ ∀ h ∈ habNames, valV kvs (Sum.inr h) = some (x.of h)
theorem GivD.same {H G : Hp} {g : Addr} {x : Hv} (s : Same H G) (h : GivD H g x) : GivD G g x := by
  obtain ⟨kvs, h1, h2⟩ := h
  exact ⟨kvs, s _ _ h1, h2⟩
theorem PlanD.giv {H : Hp} {g : Addr} {x : Hv} (h : PlanD H g x) : GivD H g x := ⟨_, h, fun _ hh => told_of x hh⟩
def spMadeR (CH : Addr) : Sp := fun vs H Q _ => ∃ (g : Addr) (y : Hv), vs = [.ref g] ∧ PlanD H g y ∧ RightH y ∧ ∀ h G, Same H G → H h = none → HabAtV CH G h y → Q (.ref h) G
theorem scMade : FnScope ["given"] ["given"] (defScope sMade) := ⟨rfl, rfl, rfl, by decide +kernel, rfl, by decide +kernel, by decide +kernel⟩
theorem ok_madeR {CH CB f fH : Addr} {fd fdH : FuncData} (F : FnP K "_law_made" sMade f fd) (MH : Mk K CH fH) (DH : HabD K fH fdH) (FH : FnOk P w K mg base (L2.CX P w) 4 fH fdH psH (spHabV CH CB)) (gH : mg "Habits" = some (.ref CH)) : FnOk P w K mg base CX0 6 f fd ["given"] (spMadeR CH) := by
  obtain ⟨mvH, kH⟩ := hb_4 DH
  refine F.ok scMade (fun vs H Q E h => ?_) (fun cdv A outer s H vs Q E hr h => ?_)
  · obtain ⟨g, y, rfl, _⟩ := h
    rfl
  · obtain ⟨g, y, rfl, hg, ry, k⟩ := h
    have hu := hu_of hr
    refine ⟨_, PSs.nox (pss_one (ps_ret (pe_makeK0 MH FH hr (by rfl) gH kH L2.passL (pk_cons (pe_dget hu (pv 0) pe_str (fun _ _ => rfl)) (pk_cons (pe_dget hu (pv 0) pe_str (fun _ _ => rfl)) (pk_cons (pe_dget hu (pv 0) pe_str (fun _ _ => rfl)) (pk_cons (pe_dget hu (pv 0) pe_str (fun _ _ => rfl)) pk_nil))))))), ?_⟩
    refine ⟨_, rfl, g, y.pr, rfl, .inl ⟨_, Sum.inr "present", .inl hg, rfl, rfl⟩, _, rfl, g, y.la, rfl, .inl ⟨_, Sum.inr "lacking", .inl hg, rfl, rfl⟩, _, rfl, g, y.go, rfl, .inl ⟨_, Sum.inr "gone", .inl hg, rfl, rfl⟩, _, rfl, g, y.sh, rfl, .inl ⟨_, Sum.inr "shared", .inl hg, rfl, rfl⟩, rfl, rfl, fun x dx nx ndx ne => ?_⟩
    exact ⟨x, dx, 0, y, rfl, upd_same, right_pl ry, fun z r e => (by have z0 : wrongs y = [] := ry; rw [z0] at e; cases e), fun _ Ga ka ha => ⟨rfl, k x Ga (keep_ins3 nx ndx ka) nx ha⟩⟩
/-! turned, in each of the ways -/
def turnH (way : Int) (y x : Hv) : Hv := if way = 0 then y else if way = 1 then { y with pr := x.pr } else if way = 2 then { y with la := x.la } else if way = 3 then { y with go := x.go } else if way = 4 then { y with sh := x.sh } else if way = 5 then { y with sh := x.sh, pr := x.pr } else if way = 6 then { y with go := x.go, la := x.la } else x
theorem turn_pl {a : Addr} {H : Hp} {y x : Hv} (hy : PlH a H y) (hx : PlH a H x) (way : Int) : PlH a H (turnH way y x) := by
  unfold turnH
  split
  · exact hy
  split
  · exact ⟨hx.pr, hy.la, hy.go, hy.sh⟩
  split
  · exact ⟨hy.pr, hx.la, hy.go, hy.sh⟩
  split
  · exact ⟨hy.pr, hy.la, hx.go, hy.sh⟩
  split
  · exact ⟨hy.pr, hy.la, hy.go, hx.sh⟩
  split
  · exact ⟨hx.pr, hy.la, hy.go, hx.sh⟩
  split
  · exact ⟨hy.pr, hx.la, hx.go, hy.sh⟩
  · exact hx
def spTurned34 (CH CB : Addr) : Sp := fun vs H Q E => ∃ (p : Addr) (way : Int) (g a : Addr) (y x : Hv), vs = [.ref p, .int way, .ref g] ∧ HabAtV CH H p y ∧ RightH y ∧ GivD H g x ∧ PlH a H x ∧
  (∀ z r, wrongs (turnH way y x) = z :: r → ∀ d G, H d = none → Same H G → G d = some (.xd (habF z)) → E (.ref CB) (some d) G) ∧ (wrongs (turnH way y x) = [] → ∀ h G, Same H G → H h = none → HabAtV CH G h (turnH way y x) → Q (.ref h) G)
abbrev nTurned34 : List Str := ["habits", "way", "given", "present", "lacking", "gone", "shared", "habit"]
theorem scTurned34 : FnScope nTurned34 ["habits", "way", "given"] (defScope sTurned34) := ⟨rfl, rfl, rfl, by decide +kernel, rfl, by decide +kernel, by decide +kernel⟩
theorem way_if {way c : Int} {A B : Prop} (h1 : way = c → A) (h2 : way ≠ c → B) : if decide (V.int way = V.int c) = true then A else B := by
  by_cases h : way = c
  · exact itTb (decide_eq_true (by rw [h])) (h1 h)
  · exact itFb (decide_eq_false fun e => h (V.int.inj e)) (h2 h)
theorem take_one {α : Type} {l : List α} {i : Nat} {x : α} (h : l[i]? = some x) : l.take (i + 1) = l.take i ++ [x] := by
  rw [List.take_add_one, h]
  rfl
theorem ok_turned34 {CH CB f fT : Addr} {fd : FuncData} (F : FnP K "_law_turned" sTurned34 f fd) (cl : Cls K CH) (MT : Meth K CH "turned" fT) (FT : ∀ ks, KwB ks → ks.Nodup → ks.length ≤ 100 → Kw.FnKw P w K mg base (L2.CX P w) 6 fT ks (spTurnH CH CB)) (cN : Cal P w K mg base CX0 "_law_names_of_habits" 1 [] spNamesH) :
    FnOk P w K mg base (L2.CX P w) 7 f fd ["habits", "way", "given"] (spTurned34 CH CB) := by
  obtain ⟨fNm, fdNm, gNm, kNm, FNm, bNm⟩ := cN.ex
  refine F.ok scTurned34 (fun vs H Q E h => ?_) (fun cdv A outer s H vs Q E hr h => ?_)
  · obtain ⟨p, way, g, a, y, x, rfl, _⟩ := h
    rfl
  · obtain ⟨p, way, g, a, y, x, rfl, hab, ry, hg, px, kE, k⟩ := h
    have nd := scTurned34.nd
    have hu := hu_of hr
    have h1 : Room 1 _ := hr.mono (by decide)
    have pE : Passes (L2.CX P w) (cxOf (L2.CX P w) P w K mg base nTurned34 "_law_turned" (defScope sTurned34) f cdv A outer s H E) E := L2.passes_call (W := fun cls d _ G => E cls d G) (L2.takes_of rfl rfl rfl rfl) (fun _ _ _ _ h => h)
    have F0 := FT [] kwb0 (by decide) (by decide)
    have F1 := FT ["present"] (kwb1 _ (by decide)) (by decide) (by decide)
    have F2 := FT ["lacking"] (kwb1 _ (by decide)) (by decide) (by decide)
    have F3 := FT ["gone"] (kwb1 _ (by decide)) (by decide) (by decide)
    have F4 := FT ["shared"] (kwb1 _ (by decide)) (by decide) (by decide)
    have F5 := FT ["shared", "present"] kwb2 (by decide) (by decide)
    have F6 := FT ["gone", "lacking"] kwb3 (by decide) (by decide)
    have F7 := FT ["shared", "gone", "lacking", "present"] kwb4 (by decide) (by decide)
    refine ⟨_, (pss_cons (ps_asg (pe_lc (own := [("habit", 7)]) (g := (gName 7)) (tt := tYes) rfl nd (pi_list (pe_call0 FNm h1 rfl gNm kNm bNm .nil pass0)) (blkOk_by (N := nTurned34) (sc := defScope sTurned34) (by decide +kernel)) (fun _ _ _ _ _ => pg_name (i := 7) nd rfl (Or.inl rfl)) (fun _ _ _ _ _ => pts_nil) (fun _ _ _ _ _ => pe_dget hu (pv 2) (pv 7) (fun _ _ => rfl))) (pg_unl (by rfl) (pgs_cons (pg_name (i := 3) nd rfl (Or.inl rfl)) (pgs_cons (pg_name (i := 4) nd rfl (Or.inl rfl)) (pgs_cons (pg_name (i := 5) nd rfl (Or.inl rfl)) (pgs_cons (pg_name (i := 6) nd rfl (Or.inl rfl)) pgs_nil))))))
      (pss_cons (ps_if (pt_cmpR op_eq (pv 1) pe_int (nomark _)) (pss_one (ps_ret (Kw.pe_methKw (pv 0) cl MT F0 hr pE pk_nil))) pss_nil)
      (pss_cons (ps_if (pt_cmpR op_eq (pv 1) pe_int (nomark _)) (pss_one (ps_ret (Kw.pe_methKw (pv 0) cl MT F1 hr pE (pk_cons (pv 3) pk_nil)))) pss_nil)
      (pss_cons (ps_if (pt_cmpR op_eq (pv 1) pe_int (nomark _)) (pss_one (ps_ret (Kw.pe_methKw (pv 0) cl MT F2 hr pE (pk_cons (pv 4) pk_nil)))) pss_nil)
      (pss_cons (ps_if (pt_cmpR op_eq (pv 1) pe_int (nomark _)) (pss_one (ps_ret (Kw.pe_methKw (pv 0) cl MT F3 hr pE (pk_cons (pv 5) pk_nil)))) pss_nil)
      (pss_cons (ps_if (pt_cmpR op_eq (pv 1) pe_int (nomark _)) (pss_one (ps_ret (Kw.pe_methKw (pv 0) cl MT F4 hr pE (pk_cons (pv 6) pk_nil)))) pss_nil)
      (pss_cons (ps_if (pt_cmpR op_eq (pv 1) pe_int (nomark _)) (pss_one (ps_ret (Kw.pe_methKw (pv 0) cl MT F5 hr pE (pk_cons (pv 6) (pk_cons (pv 3) pk_nil))))) pss_nil)
      (pss_cons (ps_if (pt_cmpR op_eq (pv 1) pe_int (nomark _)) (pss_one (ps_ret (Kw.pe_methKw (pv 0) cl MT F6 hr pE (pk_cons (pv 5) (pk_cons (pv 4) pk_nil))))) pss_nil)
      (pss_one (ps_ret (Kw.pe_methKw (pv 0) cl MT F7 hr pE (pk_cons (pv 6) (pk_cons (pv 5) (pk_cons (pv 4) (pk_cons (pv 3) pk_nil))))))))))))))), ?_⟩
    refine ⟨rfl, fun hl Ga sa nhl ghl => ⟨hl, rfl, ⟨_, SqL.of ghl⟩, fun D nD => ?_⟩⟩
    obtain ⟨kvs, hk, hv⟩ := hg
    refine lc_list (xs := habNames.map V.str) (fun i G => Same Ga G ∧ G D = some (.lst ((habNames.take i).map x.of))) ⟨Lw.Same.new (Same.refl Ga) nD, upd_same⟩ (fun i G _ h => SqL.of (h.1 _ _ ghl)) ?_ ?_
    · rintro i v G hx ⟨sG, gD⟩
      rw [List.getElem?_map] at hx
      obtain ⟨n, hn, rfl⟩ := Option.map_eq_some_iff.mp hx
      have hi : i < 4 := (List.getElem?_eq_some_iff.mp hn).1
      refine ⟨rfl, _, rfl, _, rfl, g, x.of n, rfl, .inl ⟨kvs, Sum.inr n, .inl (sG _ _ (sa _ _ hk)), rfl, (hv n (List.mem_of_getElem? hn)).symm⟩, _, gD, ?_, same_at nD sG, ?_⟩
      · have h9 : sizeLine = 16777216 := by decide
        rw [List.length_map, List.length_take]
        omega
      · rw [upd_same, take_one hn, List.map_append]
        rfl
    · rintro G ⟨sG, gD⟩
      have sH := sa.trans sG
      refine ⟨D, [x.pr, x.la, x.go, x.sh], rfl, SqL.of gD, rfl, _, _, rfl, _, _, rfl, _, _, rfl, _, _, rfl, rfl, ?_⟩
      obtain ⟨dx, hp⟩ := hab
      have hp2 := sH _ _ hp
      have main : ∀ (y' : Hv) (more : List (Key × V)), turnH way y x = y' → mergeK (toldV y) more = toldV y' → more.length ≤ 4 → ∀ d, G d = none → spTurnH CH CB [.ref p, .ref d] (upd G d (.dK more)) Q E := by
        rintro _ more rfl em lm d nd2
        have sd := Lw.Same.new (o := .dK more) (Same.refl G) nd2
        have sA := sH.trans sd
        exact ⟨p, d, a, y, _, more, rfl, ⟨dx, sd _ _ hp2⟩, upd_same, em, lm, (turn_pl (right_pl ry) px way).same sA, fun z r e d2 G2 n2 s2 g2 => kE z r e d2 G2 (none_of_same sA n2) (sA.trans s2) g2, fun e h G2 s2 n2 hab => k e h G2 (sA.trans s2) (none_of_same sA n2) hab⟩
      have e0 : way = 0 → turnH way y x = y := fun e => by subst e; rfl
      have e1 : way = 1 → turnH way y x = { y with pr := x.pr } := fun e => by subst e; rfl
      have e2 : way = 2 → turnH way y x = { y with la := x.la } := fun e => by subst e; rfl
      have e3 : way = 3 → turnH way y x = { y with go := x.go } := fun e => by subst e; rfl
      have e4 : way = 4 → turnH way y x = { y with sh := x.sh } := fun e => by subst e; rfl
      have e5 : way = 5 → turnH way y x = { y with sh := x.sh, pr := x.pr } := fun e => by subst e; rfl
      have e6 : way = 6 → turnH way y x = { y with go := x.go, la := x.la } := fun e => by subst e; rfl
      dsimp only
      refine ⟨_, rfl, rfl, _, rfl, way_if (fun e => ⟨_, rfl, p, dx, _, rfl, hp2, rfl, rfl, main _ _ (e0 e) rfl (by decide)⟩) (fun n0 => ?_)⟩
      dsimp only [tNext]
      refine ⟨_, rfl, rfl, _, rfl, way_if (fun e => ⟨_, rfl, p, dx, _, rfl, hp2, rfl, _, rfl, rfl, main _ _ (e1 e) rfl (by show 1 ≤ 4; decide)⟩) (fun n1 => ?_)⟩
      dsimp only [tNext]
      refine ⟨_, rfl, rfl, _, rfl, way_if (fun e => ⟨_, rfl, p, dx, _, rfl, hp2, rfl, _, rfl, rfl, main _ _ (e2 e) rfl (by show 1 ≤ 4; decide)⟩) (fun n2 => ?_)⟩
      dsimp only [tNext]
      refine ⟨_, rfl, rfl, _, rfl, way_if (fun e => ⟨_, rfl, p, dx, _, rfl, hp2, rfl, _, rfl, rfl, main _ _ (e3 e) rfl (by show 1 ≤ 4; decide)⟩) (fun n3 => ?_)⟩
      dsimp only [tNext]
      refine ⟨_, rfl, rfl, _, rfl, way_if (fun e => ⟨_, rfl, p, dx, _, rfl, hp2, rfl, _, rfl, rfl, main _ _ (e4 e) rfl (by show 1 ≤ 4; decide)⟩) (fun n4 => ?_)⟩
      dsimp only [tNext]
      refine ⟨_, rfl, rfl, _, rfl, way_if (fun e => ⟨_, rfl, p, dx, _, rfl, hp2, rfl, _, rfl, _, rfl, rfl, main _ _ (e5 e) rfl (by show 2 ≤ 4; decide)⟩) (fun n5 => ?_)⟩
      dsimp only [tNext]
      refine ⟨_, rfl, rfl, _, rfl, way_if (fun e => ⟨_, rfl, p, dx, _, rfl, hp2, rfl, _, rfl, _, rfl, rfl, main _ _ (e6 e) rfl (by show 2 ≤ 4; decide)⟩) (fun n6 => ?_)⟩
      have e7 : turnH way y x = x := by
        unfold turnH
        rw [if_neg n0, if_neg n1, if_neg n2, if_neg n3, if_neg n4, if_neg n5, if_neg n6]
      dsimp only [tNext]
      exact ⟨_, rfl, p, dx, _, rfl, hp2, rfl, _, rfl, _, rfl, _, rfl, _, rfl, rfl, main _ _ e7 rfl (by show 4 ≤ 4; decide)⟩
end
end Lw

set_option Elab.async false
set_option linter.all false
set_option maxRecDepth 100000
set_option maxHeartbeats 40000000
namespace Lw
open PySem PySem.Spec PyProof.Rows L2
abbrev sSource : Stmt := top 9
abbrev sDraw : Stmt := top 10
abbrev sPick : Stmt := top 11
section
variable {P : Program} {w : World} {K : PySem.W.Frag} {mg : Str → Option Value} {base : Heap}
theorem scSource : FnScope ["script", "at", "cell", "great"] ["script", "at"] (defScope sSource) := ⟨rfl, rfl, rfl, by decide +kernel, rfl, by decide +kernel, by decide +kernel⟩
theorem ok_source {f : Addr} {fd : FuncData} (F : FnP K "_law_source" sSource f fd) (T : TxtD mg) : FnOk P w K mg base CX0 1 f fd ["script", "at"] (spSource K) := by
  refine F.ok scSource (fun vs H Q E h => ?_) (fun cdv A outer s H vs Q E hr h => ?_)
  · obtain ⟨a, ns, i, rfl, _⟩ := h
    rfl
  · obtain ⟨a, ns, i, rfl, hS, hl, i0, i1, k⟩ := h
    refine ⟨_, PSs.nox (pss_cons (ps_set (i := 2) scSource.nd rfl (Or.inl rfl) (pe_ifExp (pt_cmpR op_lt (pv 1) (pe_callB call_len_seq (by rfl) T.len PySem.boot_len (pa_cons (pv 0) pa_nil)) (nomark _)) (pe_callTy call_int1 (by rfl) T.int (by decide +kernel) (pa_cons (pe_ix ix_list (pv 0) (pv 1) (fun _ _ => rfl)) pa_nil)) pe_int))
      (pss_cons (ps_set (i := 3) scSource.nd rfl (Or.inl rfl) (pe_ifExp (pt_cmpR op_ge (pe_callB call_abs (by rfl) T.abs (by decide +kernel) (pa_cons (pv 2) pa_nil)) (pe_op op_pow pe_int pe_int) (nomark _)) (pe_callB call_abs (by rfl) T.abs (by decide +kernel) (pa_cons (pv 2) pa_nil)) pe_int))
      (pss_one (ps_ret (pe_lst (pa_cons (pv 3) (pa_cons (pe_op op_add (pe_op op_add (pe_op op_modN (pe_callTy call_int1 (by rfl) T.int (by decide +kernel) (pa_cons (pv 2) pa_nil)) pe_int) (pe_op op_mul pe_int (pv 1))) pe_int) (pa_cons pe_int pa_nil)))))))), ?_⟩
    refine sq_set (fun x H' => H = H' ∧ ∃ c : Int, x = .int c) (fun Q q => ?_) ?_
    · refine ⟨_, rfl, _, rfl, a, _, rfl, .inl hS, _, _, rfl, rfl, _, rfl, ?_⟩
      refine bool_ite (fun c => ?_) (fun c => ?_)
      · obtain ⟨x, hx, hm⟩ := atI_get (xs := ns.map V.int) i0 (by simpa using c)
        obtain ⟨z, _, rfl⟩ := List.mem_map.mp hm
        exact ⟨_, rfl, _, rfl, a, _, _, _, rfl, rfl, hS, hx, .inl ⟨_, rfl, q _ _ ⟨rfl, z, rfl⟩⟩⟩
      · exact q _ _ ⟨rfl, 0, rfl⟩
    rintro _ _ ⟨rfl, c, rfl⟩
    refine sq_set (fun x H' => H = H' ∧ ∃ d : Int, x = .int d ∧ 0 ≤ d) (fun Q q => ?_) ?_
    · refine ⟨_, rfl, _, rfl, _, _, rfl, rfl, ⟨by decide, by decide, by decide⟩, _, _, rfl, rfl, _, rfl, ?_⟩
      refine bool_ite (fun _ => ?_) (fun _ => ?_)
      · exact ⟨_, rfl, _, rfl, q _ _ ⟨rfl, _, rfl, by split <;> omega⟩⟩
      · exact q _ _ ⟨rfl, 0, rfl, by decide⟩
    rintro _ _ ⟨rfl, d, rfl, d0⟩
    refine ⟨_, rfl, _, rfl, .inl ⟨_, rfl, _, _, rfl, rfl, (by show (2305843009213693951 : Int) ≠ 0; decide), _, rfl, _, _, rfl, rfl, .inl ⟨by decide, by decide⟩, _, _, rfl, rfl, _, _, rfl, rfl, (by show 3 ≤ sizeLine; decide), fun p hp => ?_⟩⟩
    have hb := fmod_src c
    exact k p _ hp (fun b o h => by rw [upd_ne (ne_of_none h hp)]; exact h) ⟨d, _, 0, upd_same, d0, by omega, by omega, by decide, by decide⟩
theorem scDraw : FnScope ["source", "many", "digit", "mixed"] ["source", "many"] (defScope sDraw) := ⟨rfl, rfl, rfl, by decide +kernel, rfl, by decide +kernel, by decide +kernel⟩
theorem ok_draw {f : Addr} {fd : FuncData} (F : FnP K "_law_draw" sDraw f fd) (T : TxtD mg) : FnOk P w K mg base CX0 1 f fd ["source", "many"] spDrawW := by
  refine F.ok scDraw (fun vs H Q E h => ?_) (fun cdv A outer s H vs Q E hr h => ?_)
  · obtain ⟨a, n, m, rfl, _⟩ := h
    rfl
  · obtain ⟨a, n, m, rfl, ⟨d, s', t, hA, d0, s0, s1, t0, t1⟩, hn, m0, m1, k⟩ := h
    have hu := hu_of hr
    have nd := scDraw.nd
    refine ⟨_, PSs.nox (pss_cons (ps_if (pt_cmpR op_gt (pe_ix ix_list (pv 0) pe_int (fun _ _ => rfl)) pe_int (nomark _))
        (pss_cons (ps_set (i := 2) nd rfl (Or.inl rfl) (pe_op op_modN (pe_callTy call_int1 (by rfl) T.int (by decide +kernel) (pa_cons (pe_ix ix_list (pv 0) pe_int (fun _ _ => rfl)) pa_nil)) (pv 1)))
          (pss_cons (ps_asg (pe_op op_fdivW (pe_ix ix_list (pv 0) pe_int (fun _ _ => rfl)) (pv 1)) (pg_sub (pv 0) pe_int set_list)) (pss_one (ps_ret (pv 2))))) pss_nil)
      (pss_cons (ps_asg (pe_op op_add (pe_ix ix_list (pv 0) pe_int (fun _ _ => rfl)) pe_int) (pg_sub (pv 0) pe_int set_list))
      (pss_cons (ps_set (i := 3) nd rfl (Or.inl rfl) (pe_op op_modN (pe_callTy call_int1 (by rfl) T.int (by decide +kernel) (pa_cons (pe_op op_add (pe_op op_pow (pe_op op_add (pe_ix ix_list (pv 0) pe_int (fun _ _ => rfl)) (pe_op op_mul pe_int (pe_ix ix_list (pv 0) pe_int (fun _ _ => rfl)))) pe_int) (pe_op op_mul pe_int (pe_ix ix_list (pv 0) pe_int (fun _ _ => rfl)))) pa_nil)) pe_int))
      (pss_cons (ps_set (i := 3) nd rfl (Or.inl rfl) (pe_op op_modN (pe_callTy call_int1 (by rfl) T.int (by decide +kernel) (pa_cons (pe_op op_add (pe_op op_pow (pe_op op_add (pv 3) (pe_op op_mul pe_int (pe_ix ix_list (pv 0) pe_int (fun _ _ => rfl)))) pe_int) (pe_op op_mul pe_int (pv 3))) pa_nil)) pe_int))
      (pss_one (ps_ret (pe_op op_modN (pe_callTy call_int1 (by rfl) T.int (by decide +kernel) (pa_cons (pe_op op_fdivN (pv 3) pe_int) pa_nil)) (pv 1)))))))), ?_⟩
    have zA : ∀ (r : Int), 0 ≤ r.fmod m ∧ r.fmod m < m := fun r => ⟨Int.fmod_nonneg_of_pos r m0, Int.fmod_lt_of_pos r m0⟩
    have mz : m ≠ 0 := by omega
    refine sq_if (fun b H' => H = H' ∧ b = decide (0 < d)) (fun Q q => ?_) ?_ ?_
    · exact ⟨_, rfl, a, _, _, _, rfl, rfl, SqL.of hA, rfl, _, _, rfl, rfl, _, rfl, q _ _ ⟨rfl, rfl⟩⟩
    · rintro _ ⟨rfl, c⟩
      refine ⟨_, rfl, a, _, _, _, rfl, rfl, SqL.of hA, rfl, .inl ⟨_, rfl, _, rfl, _, _, rfl, rfl, mz, ?_⟩⟩
      refine ⟨_, rfl, a, _, _, _, rfl, rfl, SqL.of hA, rfl, _, rfl, _, _, rfl, rfl, wide_div m0 m1 (by decide) (by decide), _, rfl, a, _, _, _, rfl, rfl, hA, rfl, _, rfl, ?_⟩
      exact k _ _ (Keep.refl H).upd ⟨_, _, _, upd_same, Int.ediv_nonneg d0 (by omega), s0, s1, t0, by omega⟩ (zA d).1 (zA d).2
    · rintro _ ⟨rfl, c⟩
      refine ⟨_, rfl, a, _, _, _, rfl, rfl, SqL.of hA, rfl, _, _, rfl, rfl, _, rfl, a, _, _, _, rfl, rfl, hA, rfl, ?_⟩
      dsimp only
      refine sq_set (fun x H' => upd H a (.lst [.int d, .int s', .int (t + 1)]) = H' ∧ ∃ z : Int, x = .int z ∧ 0 ≤ z ∧ z < 2305843009213693951) (fun Q q => ?_) ?_
      · refine ⟨_, rfl, a, _, _, _, rfl, rfl, SqL.of upd_same, rfl, _, rfl, a, _, _, _, rfl, rfl, SqL.of upd_same, rfl, _, _, rfl, rfl, .inl ⟨by decide, by decide⟩, _, _, rfl, rfl, _, _, rfl, rfl, ⟨by decide, by decide, ?_⟩, _, rfl, a, _, _, _, rfl, rfl, SqL.of upd_same, rfl, _, _, rfl, rfl, .inl ⟨by decide, by decide⟩, _, _, rfl, rfl,
          .inl ⟨_, rfl, _, _, rfl, rfl, (by show (2305843009213693951 : Int) ≠ 0; decide), ?_⟩⟩
        · show (s' + 15485863 * (t + 1)).natAbs < 2 ^ 64
          omega
        · exact q _ _ ⟨rfl, _, rfl, (fmod_src _).1, (fmod_src _).2⟩
      rintro _ _ ⟨rfl, z, rfl, z0, z1⟩
      refine sq_set (fun x H' => upd H a (.lst [.int d, .int s', .int (t + 1)]) = H' ∧ ∃ z : Int, x = .int z ∧ 0 ≤ z ∧ z < 2305843009213693951) (fun Q q => ?_) ?_
      · refine ⟨_, rfl, _, rfl, a, _, _, _, rfl, rfl, SqL.of upd_same, rfl, _, _, rfl, rfl, .inl ⟨by decide, by decide⟩, _, _, rfl, rfl, _, _, rfl, rfl, ⟨by decide, by decide, ?_⟩, _, rfl, _, _, rfl, rfl, .inl ⟨by decide, by decide⟩, _, _, rfl, rfl,
          .inl ⟨_, rfl, _, _, rfl, rfl, (by show (2305843009213693921 : Int) ≠ 0; decide), ?_⟩⟩
        · show (z + 32452867 * (t + 1)).natAbs < 2 ^ 64
          omega
        · refine q _ _ ⟨rfl, _, rfl, Int.fmod_nonneg_of_pos _ (by show (0 : Int) < 2305843009213693921; decide), ?_⟩
          exact Int.lt_trans (Int.fmod_lt_of_pos _ (by show (0 : Int) < 2305843009213693921; decide)) (by decide)
      rintro _ _ ⟨rfl, y, rfl, y0, y1⟩
      refine ⟨_, rfl, _, _, rfl, rfl, ⟨by decide, by decide⟩, .inl ⟨_, rfl, _, rfl, _, _, rfl, rfl, mz, ?_⟩⟩
      exact k _ _ ((Keep.refl H).upd) ⟨_, _, _, upd_same, d0, by omega, by omega, by omega, by omega⟩ (zA _).1 (zA _).2
theorem cal_draw (T : TxtD mg) (D : DefIs K mg "_law_draw" sDraw) : Cal P w K mg base CX0 "_law_draw" 1 ["source", "many"] spDrawW := by
  obtain ⟨f, fd, hm, F⟩ := D
  exact ⟨f, fd, hm, F.kp, ok_draw F T, F.bindsN fun _ _ _ _ _ _ us hl => match us, hl with | [_, _], _ => rfl⟩
theorem scPick : FnScope ["source", "some"] ["source", "some"] (defScope sPick) := ⟨rfl, rfl, rfl, by decide +kernel, rfl, by decide +kernel, by decide +kernel⟩
theorem ok_pick {f : Addr} {fd : FuncData} (F : FnP K "_law_pick" sPick f fd) (T : TxtD mg) (cD : Cal P w K mg base CX0 "_law_draw" 1 ["source", "many"] spDrawW) : FnOk P w K mg base CX0 2 f fd ["source", "some"] (spOf K) := by
  refine F.ok scPick (fun vs H Q E h => ?_) (fun cdv A outer s H vs Q E hr h => ?_)
  · obtain ⟨a, b, n, xs, rfl, _⟩ := h
    rfl
  · obtain ⟨a, b, n, xs, rfl, hs, hn, ba, hb, x0, x1, k⟩ := h
    refine ⟨_, PSs.nox (pss_one (ps_ret (pe_ix ix_list (pv 1) (pe_cal cD hr (pa_cons (pv 0) (pa_cons (pe_callB call_len_seq (by rfl) T.len PySem.boot_len (pa_cons (pv 1) pa_nil)) pa_nil))) (fun _ _ => rfl)))), ?_⟩
    have xl : 0 < xs.length := List.length_pos_iff.mpr x0
    refine ⟨_, rfl, _, rfl, _, rfl, b, _, rfl, .inl hb, a, n, _, rfl, hs, hn, by omega, small_m (by omega), fun H' i kp sr i0 i1 => ?_⟩
    obtain ⟨x, hx, hm⟩ := atI_get i0 i1
    exact ⟨b, _, _, _, rfl, rfl, kp.seq ba hb, hx, k _ _ kp sr hm⟩
end
end Lw

set_option Elab.async false
set_option linter.all false
set_option maxRecDepth 100000
set_option maxHeartbeats 40000000
namespace Lw
open PySem PySem.Spec PyProof.Rows L2
abbrev sPlain : Stmt := top 15
abbrev sIs34 : Stmt := top 18
section
variable {P : Program} {w : World} {K : PySem.W.Frag} {mg : Str → Option Value} {base : Heap}
/-! a plan of right values; habits asked -/
theorem gd_str {y : Hv} {h : Str} (e : gd y h = true) : ∃ s, y.of h = .str s ∧ s ∈ valsOf h := by
  unfold gd at e
  generalize y.of h = v at e
  cases v with
  | str s => exact ⟨s, rfl, of_decide_eq_true e⟩
  | _ => cases e
theorem valsOf_ne (h : Str) : valsOf h ≠ [] ∧ (valsOf h).length ≤ 4 := by
  unfold valsOf
  split
  · exact ⟨by simp, by decide⟩
  split
  · exact ⟨by simp, by decide⟩
  split
  · exact ⟨by simp, by decide⟩
  · exact ⟨by simp, by decide⟩
def strK (kvs : List (Str × Str)) : List (Key × V) := kvs.map fun q => ((Sum.inr q.1 : Key), V.str q.2)
theorem strK_put {kvs : List (Str × Str)} {i : Nat} {z s : Str} (hk : kvs.map (·.1) = habNames.take i) (hz : habNames[i]? = some z) : putK (strK kvs) (Sum.inr z) (.str s) = strK (kvs ++ [(z, s)]) := by
  have out : (Sum.inr z : Key) ∉ (strK kvs).map (·.1) := fun m => by
    have e : (strK kvs).map (·.1) = (kvs.map (·.1)).map Sum.inr := by
      unfold strK
      rw [List.map_map, List.map_map]
      rfl
    rw [e, hk] at m
    obtain ⟨y, hy, e2⟩ := List.mem_map.mp m
    cases e2
    have nd : habNames.Nodup := by decide
    have e3 : habNames = habNames.take i ++ (z :: habNames.drop (i + 1)) := by
      obtain ⟨hi, e⟩ := List.getElem?_eq_some_iff.mp hz
      rw [← e, List.getElem_cons_drop, List.take_append_drop]
    rw [e3] at nd
    exact (List.nodup_append.mp nd).2.2 z hy z List.mem_cons_self rfl
  rw [L2.putK_new _ (val_none out)]
  unfold strK
  rw [List.map_append]
  rfl
theorem strK_all {kvs : List (Str × Str)} (hk : kvs.map (·.1) = habNames) (hv : ∀ q ∈ kvs, q.2 ∈ valsOf q.1) : ∃ y : Hv, strK kvs = toldV y ∧ RightH y := by
  match kvs, hk with
  | [(k1, a), (k2, b), (k3, c), (k4, d)], hk =>
    have h : [k1, k2, k3, k4] = habNames := hk
    simp only [List.cons.injEq, and_true] at h
    obtain ⟨rfl, rfl, rfl, rfl⟩ := h
    refine ⟨⟨.str a, .str b, .str c, .str d⟩, rfl, wrongs_nil.mpr fun n hn => ?_⟩
    rcases List.mem_cons.mp hn with rfl | hn
    · exact decide_eq_true (hv ("present", a) (by simp))
    rcases List.mem_cons.mp hn with rfl | hn
    · exact decide_eq_true (hv ("lacking", b) (by simp))
    rcases List.mem_cons.mp hn with rfl | hn
    · exact decide_eq_true (hv ("gone", c) (by simp))
    rcases List.mem_cons.mp hn with rfl | hn
    · exact decide_eq_true (hv ("shared", d) (by simp))
    cases hn
def spPlain (K : PySem.W.Frag) : Sp := fun vs H Q _ => ∃ (a nr : Addr) (n : Nat) (y : Hv), vs = [.ref a, .ref nr] ∧ Src H a n ∧ n ≤ 800000000 ∧ PlanD H nr y ∧ RightH y ∧ nr ≠ a ∧ ∀ q G y', Keep a H G → Src G a (n + 20) → H q = none → PlanD G q y' → RightH y' → Q (.ref q) G
abbrev nPlain : List Str := ["source", "near", "found", "habit"]
theorem scPlain : FnScope nPlain ["source", "near"] (defScope sPlain) := ⟨rfl, rfl, rfl, by decide +kernel, rfl, by decide +kernel, by decide +kernel⟩
theorem ok_plain {f : Addr} {fd : FuncData} (F : FnP K "_law_plain" sPlain f fd) (cD : Cal P w K mg base CX0 "_law_draw" 1 ["source", "many"] spDrawW) (cP : Cal P w K mg base CX0 "_law_pick" 2 ["source", "some"] (spOf K)) (cV : Cal P w K mg base CX0 "_law_values" 1 ["habit"] spValues) (cN : Cal P w K mg base CX0 "_law_names_of_habits" 1 [] spNamesH) : FnOk P w K mg base CX0 3 f fd ["source", "near"] (spPlain K) := by
  obtain ⟨fNm, fdNm, gNm, kNm, FNm, bNm⟩ := cN.ex
  refine F.ok scPlain (fun vs H Q E h => ?_) (fun cdv A outer s H vs Q E hr h => ?_)
  · obtain ⟨a, nr, n, y, rfl, _⟩ := h
    rfl
  · obtain ⟨a, nr, n, y, rfl, hs, hn, hy, ry, na, k⟩ := h
    have nd := scPlain.nd
    have h1 : Room 1 _ := hr.mono (by decide)
    have hu := hu_of hr
    refine ⟨_, PSs.nox (pss_cons (ps_set (i := 2) nd rfl (Or.inl rfl) pe_dnewK)
      (pss_cons (ps_for PassesOwn.never rfl (pi_list (pe_call0 FNm h1 rfl gNm kNm bNm .nil pass0)) (pg_name (i := 3) nd rfl (Or.inl rfl)) (pss_one (ps_dput hu (pv 2) (pv 3)
        (pe_ifExp (pt_cmpR op_eq (pe_cal cD h1 (pa_cons (pv 0) (pa_cons pe_int pa_nil))) pe_int (nomark _)) (pe_cal cP hr (pa_cons (pv 0) (pa_cons (pe_cal cV h1 (pa_cons (pv 3) pa_nil)) pa_nil))) (pe_dget hu (pv 1) (pv 3) (fun _ _ => rfl))) rfl)))
      (pss_one (ps_ret (pv 2))))), ?_⟩
    refine sq_set (fun x G => ∃ q, x = .ref q ∧ H q = none ∧ G = upd H q (.dK [])) (fun Q q => fun d nd2 => q _ _ ⟨d, rfl, nd2, rfl⟩) ?_
    rintro _ _ ⟨q, rfl, nq, rfl⟩
    have sq := Lw.Same.new (o := .dK []) (Same.refl H) nq
    have gq : (upd H q (.dK [])) q = some (.dK []) := upd_same
    have qa : q ≠ a := hs.ne nq
    have S0 := hs.same sq
    have kq : Keep a H (upd H q (.dK [])) := fun b o nb e => sq _ _ e
    have oq : ∀ b o, H b = some o → b ≠ q := fun b o e => ne_of_none e nq
    refine ⟨rfl, fun hl Ga sa nhl ghl => ⟨hl, rfl, ⟨_, SqL.of ghl⟩, ?_⟩⟩
    have ha : hl ≠ a := S0.ne nhl
    have hq : hl ≠ q := (ne_of_none gq nhl).symm
    have yr := wrongs_nil.mp ry
    refine for_list (xs := habNames.map V.str) (fun i σ G => ∃ (v3 : Option V) (kvs : List (Str × Str)), σ = [some (.ref a), some (.ref nr), some (.ref q), v3] ∧ (∀ b o, b ≠ a → b ≠ q → Ga b = some o → G b = some o) ∧ Src G a (n + 2 * i) ∧ G q = some (.dK (strK kvs)) ∧ kvs.map (·.1) = habNames.take i ∧ ∀ q ∈ kvs, q.2 ∈ valsOf q.1)
      ⟨_, [], rfl, fun b o _ _ e => e, S0.same sa, sa _ _ gq, rfl, fun _ h => (List.not_mem_nil h).elim⟩ (fun i σ G _ ⟨_, _, _, kG, _⟩ => SqL.of (kG _ _ ha hq ghl)) ?_ ?_
    · rintro i x σ G hx ⟨v3, kvs, rfl, kG, SG, gD, hk, hv⟩
      rw [List.getElem?_map] at hx
      obtain ⟨z, hz, rfl⟩ := Option.map_eq_some_iff.mp hx
      have hi : i < 4 := (List.getElem?_eq_some_iff.mp hz).1
      have hm := List.mem_of_getElem? hz
      have h9 : sizeLine = 16777216 := by decide
      have lk : (strK kvs).length ≤ 4 := by
        unfold strK
        rw [List.length_map, ← List.length_map (f := (·.1)), hk, List.length_take]
        omega
      have fin : ∀ (s : Str) (G5 : Hp), s ∈ valsOf z → (∀ b o, b ≠ a → G b = some o → G5 b = some o) → Src G5 a (n + 2 * i + 2) → ∃ (v3 : Option V) (kvs2 : List (Str × Str)), ([some (.ref a), some (.ref nr), some (.ref q), some (.str z)] : List (Option V)) = [some (.ref a), some (.ref nr), some (.ref q), v3] ∧ (∀ b o, b ≠ a → b ≠ q → Ga b = some o → upd G5 q (.dK (putK (strK kvs) (Sum.inr z) (.str s))) b = some o) ∧ Src (upd G5 q (.dK (putK (strK kvs) (Sum.inr z) (.str s)))) a (n + 2 * (i + 1)) ∧ (upd G5 q (.dK (putK (strK kvs) (Sum.inr z) (.str s)))) q = some (.dK (strK kvs2)) ∧ kvs2.map (·.1) = habNames.take (i + 1) ∧ ∀ q ∈ kvs2, q.2 ∈ valsOf q.1 := fun s G5 hs5 k5 S5 => by
        refine ⟨_, kvs ++ [(z, s)], rfl, fun b o na nq e => ?_, ?_, ?_, ?_, fun q2 hq2 => ?_⟩
        · rw [upd_ne nq]
          exact k5 _ _ na (kG _ _ na nq e)
        · obtain ⟨x1, x2, x3, y1, y2⟩ := S5.mono (show n + 2 * i + 2 ≤ n + 2 * (i + 1) by omega)
          exact ⟨x1, x2, x3, by rw [upd_ne qa.symm]; exact y1, y2⟩
        · rw [upd_same, strK_put hk hz]
        · rw [List.map_append, hk, take_one hz]
          rfl
        · rcases List.mem_append.mp hq2 with h | h
          · exact hv q2 h
          · rw [List.mem_singleton.mp h]
            exact hs5
      refine ⟨_, rfl, a, _, _, rfl, SG, by omega, by decide, by decide, fun G1 m k1 S1 m0 m1 => ⟨rfl, _, rfl, way_if (fun _ => ?_) (fun _ => ?_)⟩⟩
      · refine ⟨_, rfl, _, rfl, z, rfl, hm, fun l G4 s4 nl gl => ?_⟩
        obtain ⟨vn, vl⟩ := valsOf_ne z
        refine ⟨a, l, _, _, rfl, S1.same s4, by omega, S1.ne nl, SqL.of gl, (fun e => vn (List.map_eq_nil_iff.mp e)), by rw [List.length_map]; omega, fun G5 v k5 S5 hx5 => ?_⟩
        obtain ⟨s, hs5, rfl⟩ := List.mem_map.mp hx5
        refine ⟨_, rfl, _, rfl, q, _, rfl, DPut.k (k := Sum.inr z) (k5 _ _ qa (s4 _ _ (k1 _ _ qa gD))) (by omega), ?_⟩
        exact fin s G5 hs5 (fun b o nb e => k5 _ _ nb (s4 _ _ (k1 _ _ nb e))) S5
      · obtain ⟨s, es, ms⟩ := gd_str (yr z hm)
        have hn1 : nr ≠ q := oq _ _ hy
        refine ⟨_, rfl, _, rfl, nr, .str s, rfl, .inl ⟨_, Sum.inr z, .inl (k1 _ _ na (kG _ _ na hn1 (sa _ _ (sq _ _ hy)))), rfl, by rw [← es]; exact (told_of y hm).symm⟩, _, rfl, _, rfl, q, _, rfl, DPut.k (k := Sum.inr z) (k1 _ _ qa gD) (by omega), ?_⟩
        exact fin s G1 ms k1 (S1.mono (by omega))
    · rintro σ G ⟨v3, kvs, rfl, kG, SG, gD, hk, hv⟩
      obtain ⟨y', ey, ry'⟩ := strK_all hk hv
      rw [ey] at gD
      refine ⟨_, rfl, k q G y' (fun b o nb e => kG _ _ nb (oq _ _ e) (sa _ _ (sq _ _ e))) (SG.mono (by show n + 2 * 4 ≤ n + 20; omega)) nq gD ry'⟩
/-! words and data -/
theorem dp_strs {H : Hp} : ∀ ks : List Str, DpAll K H (ks.map V.str) (ks.map PyData.str)
  | [] => .nil
  | z :: r => .cons (.str z) (dp_strs r)
theorem hab_word {z : Str} (h : z ∈ habNames) : IsWord z := by
  have e : ∀ z ∈ habNames, isWordB z = true := by decide +kernel
  exact (isWordB_iff z).mp (e z h)
theorem val_word {z n : Str} (h : z ∈ valsOf n) : IsWord z := by
  have e : ∀ z ∈ (["stop", "keep", "replace", "merge", "skip", "make", "one", "all"] : List Str), isWordB z = true := by decide +kernel
  refine (isWordB_iff z).mp (e z ?_)
  unfold valsOf at h
  split at h
  · simp only [List.mem_cons, List.not_mem_nil, or_false] at h ⊢
    rcases h with rfl | rfl | rfl | rfl <;> simp
  split at h
  · simp only [List.mem_cons, List.not_mem_nil, or_false] at h ⊢
    rcases h with rfl | rfl | rfl <;> simp
  split at h
  · simp only [List.mem_cons, List.not_mem_nil, or_false] at h ⊢
    rcases h with rfl | rfl <;> simp
  · simp only [List.mem_cons, List.not_mem_nil, or_false] at h ⊢
    rcases h with rfl | rfl <;> simp
theorem wrongs_mem {y : Hv} : ∀ z ∈ wrongs y, z ∈ habNames := fun _ h => (List.mem_filter.mp h).1
theorem shaped_told {z : Str} (h : IsWord z) (a b c : Bool) : SeqAt.shaped (.tuple [.str z, .bool a, .bool b, .bool c]) = true := by
  have h3 : PyData.canLay0 (.str z) = true := by
    have := canLay_strs [z] (fun y hy => by rw [List.mem_singleton.mp hy]; exact h)
    have e : (PyData.canLay0 (.str z) && true) = true := this
    simpa using e
  have e1 : PyData.canLay0 (.tuple [.str z, .bool a, .bool b, .bool c]) = true := by
    show (PyData.canLay0 (.str z) && (PyData.canLay0 (.bool a) && (PyData.canLay0 (.bool b) && (PyData.canLay0 (.bool c) && true)))) = true
    rw [h3]
    rfl
  unfold SeqAt.shaped
  rw [e1]
  rfl
theorem eqv_told (z : Str) (a b c : Bool) : PyData.eqv (.tuple [.str z, .bool a, .bool b, .bool c]) (.tuple [.str z, .bool a, .bool b, .bool c]) = true := by simp [PyData.eqv, PyData.eqvAll]
/-- right values are texts -/
theorem right_vals {y : Hv} (e : wrongs y = []) : ∃ ss : List Str, habNames.map y.of = ss.map V.str ∧ ∀ s ∈ ss, IsWord s := by
  have h := wrongs_nil.mp e
  obtain ⟨s1, e1, m1⟩ := gd_str (h "present" (by decide))
  obtain ⟨s2, e2, m2⟩ := gd_str (h "lacking" (by decide))
  obtain ⟨s3, e3, m3⟩ := gd_str (h "gone" (by decide))
  obtain ⟨s4, e4, m4⟩ := gd_str (h "shared" (by decide))
  refine ⟨[s1, s2, s3, s4], by show [y.of "present", y.of "lacking", y.of "gone", y.of "shared"] = _; rw [e1, e2, e3, e4]; rfl, fun s hs => ?_⟩
  simp only [List.mem_cons, List.not_mem_nil, or_false] at hs
  rcases hs with rfl | rfl | rfl | rfl
  · exact val_word m1
  · exact val_word m2
  · exact val_word m3
  · exact val_word m4
def spIs (CH : Addr) : Sp := fun vs H Q _ => ∃ (p d : Addr) (y : Hv), vs = [.ref p, .ref d] ∧ HabAtV CH H p y ∧ GivD H d y ∧ RightH y ∧ ∀ G, Same H G → Q (.bl true) G
abbrev nIs : List Str := ["habits", "due", "told", "habit"]
theorem scIs : FnScope nIs ["habits", "due"] (defScope sIs34) := ⟨rfl, rfl, rfl, by decide +kernel, rfl, by decide +kernel, by decide +kernel⟩
theorem ok_is {CH f : Addr} {fd : FuncData} (F : FnP K "_law_is" sIs34 f fd) (T : TxtHb K CH) (cN : Cal P w K mg base CX0 "_law_names_of_habits" 1 [] spNamesH) : FnOk P w K mg base CX0 2 f fd ["habits", "due"] (spIs CH) := by
  obtain ⟨fNm, fdNm, gNm, kNm, FNm, bNm⟩ := cN.ex
  refine F.ok scIs (fun vs H Q E h => ?_) (fun cdv A outer s H vs Q E hr h => ?_)
  · obtain ⟨p, d, y, rfl, _⟩ := h
    rfl
  · obtain ⟨p, d, y, rfl, ⟨dx, hab⟩, ⟨dk, hd, dv⟩, ry, k⟩ := h
    have nd := scIs.nd
    have hu := hu_of hr
    refine ⟨_, PSs.nox (pss_cons (ps_set (i := 2) nd rfl (Or.inl rfl) (pe_lst (pa_cons (pe_fld (pv 0) (by rfl)) (pa_cons (pe_fld (pv 0) (by rfl)) (pa_cons (pe_fld (pv 0) (by rfl)) (pa_cons (pe_fld (pv 0) (by rfl)) pa_nil))))))
      (pss_one (ps_ret (pe_cmpR (r := rEqD K) (by exact op_eqD hr.units) (pv 2) (pe_lc (own := [("habit", 3)]) (g := (gName 3)) (tt := tYes) rfl nd (pi_list (pe_call0 FNm hr rfl gNm kNm bNm .nil pass0)) (blkOk_by (N := nIs) (sc := defScope sIs34) (by decide +kernel)) (fun _ _ _ _ _ => pg_name (i := 3) nd rfl (Or.inl rfl)) (fun _ _ _ _ _ => pts_nil) (fun _ _ _ _ _ => pe_dget hu (pv 1) (pv 3) (fun _ _ => rfl))) (nomark _))))), ?_⟩
    obtain ⟨ss, es, ew⟩ := right_vals ry
    have ev : [y.pr, y.la, y.go, y.sh] = ss.map V.str := es
    refine sq_set (fun x G => ∃ l, x = .ref l ∧ Same H G ∧ G l = some (.lst (ss.map V.str))) (fun Q q => ?_) ?_
    · refine ⟨_, rfl, p, CH, dx, _, _, rfl, hab, T.cl, T.n1, rfl, _, rfl, p, CH, dx, _, _, rfl, hab, T.cl, T.n2, rfl, _, rfl, p, CH, dx, _, _, rfl, hab, T.cl, T.n3, rfl, _, rfl, p, CH, dx, _, _, rfl, hab, T.cl, T.n4, rfl, (by show 4 ≤ sizeLine; decide), fun l nl => ?_⟩
      refine q _ _ ⟨l, rfl, Lw.Same.new (Same.refl H) nl, ?_⟩
      rw [← ev]
      exact upd_same
    rintro _ G3 ⟨l, rfl, s3, gl⟩
    have gd3 := s3 _ _ hd
    refine ⟨_, rfl, rfl, fun hl Ga sa nhl ghl => ⟨hl, rfl, ⟨_, SqL.of ghl⟩, fun D nD => ?_⟩⟩
    refine lc_list (xs := habNames.map V.str) (fun i G => Same Ga G ∧ G D = some (.lst ((habNames.take i).map y.of))) ⟨Lw.Same.new (Same.refl Ga) nD, upd_same⟩ (fun i G _ h => SqL.of (h.1 _ _ ghl)) ?_ ?_
    · rintro i x G hx ⟨sG, gD⟩
      rw [List.getElem?_map] at hx
      obtain ⟨n, hn, rfl⟩ := Option.map_eq_some_iff.mp hx
      have hi : i < 4 := (List.getElem?_eq_some_iff.mp hn).1
      refine ⟨rfl, _, rfl, _, rfl, d, y.of n, rfl, .inl ⟨dk, Sum.inr n, .inl (sG _ _ (sa _ _ gd3)), rfl, (dv n (List.mem_of_getElem? hn)).symm⟩, _, gD, ?_, same_at nD sG, ?_⟩
      · have h9 : sizeLine = 16777216 := by decide
        rw [List.length_map, List.length_take]
        omega
      · rw [upd_same, take_one hn, List.map_append]
        rfl
    · rintro G ⟨sG, gD⟩
      have gD2 : G D = some (.lst (habNames.map y.of)) := gD
      rw [es] at gD2
      refine ⟨.list (ss.map PyData.str), .list (ss.map PyData.str), .lst (SqL.of (sG _ _ (sa _ _ gl))) (dp_strs _), .lst (SqL.of gD2) (dp_strs _), shaped_strs _ ew, shaped_strs _ ew, ?_⟩
      rw [eqv_strs ew]
      exact k G (s3.trans (sa.trans sG))
end
end Lw

set_option Elab.async false
set_option linter.all false
set_option maxRecDepth 100000
set_option maxHeartbeats 40000000
namespace Lw
open PySem PySem.Spec PyProof.Rows L2
abbrev sCaught : Stmt := top 14
section
variable {P : Program} {w : World} {K : PySem.W.Frag} {mg : Str → Option Value} {base : Heap}
/-! a call that is handed over; its error caught -/
structure TxtCa (K : PySem.W.Frag) (mg : Str → Option Value) (CB CE : Addr) : Prop where
  isi : mg "isinstance" = none
  vl : mg "ValueError" = none
  lk : mg "LookupError" = none
  gB : mg "BadHabit" = some (.ref CB)
  gE : mg "CopiesError" = some (.ref CE)
  exc : ExcC K CB
  xf : XfC K CB
  nH : PySem.W.findIn K (.ref CB) "habit" = some none
  exm : PySem.W.exmOne K (.ref CB) (.ref CB) = some true
  kE : PySem.W.kitOne K (.ref CB) (.ref CE) = some true
  kV : PySem.W.kitOne K (.ref CB) (.type "ValueError") = some true
  kL : PySem.W.kitOne K (.ref CB) (.type "LookupError") = some false
abbrev nCaught : List Str := ["act", "e"]
theorem scCaught : FnScope nCaught ["act"] (defScope sCaught) := ⟨rfl, rfl, rfl, by decide +kernel, rfl, by decide +kernel, by decide +kernel⟩
def EB (CB : Addr) (Q : VK) : XK := fun cls d G => ∃ z dd, cls = .ref CB ∧ d = some dd ∧ G dd = some (.xd (habF z)) ∧ ∀ t G2, Same G G2 → G2 t = some (.tup [.str z, .bl true, .bl true, .bl false]) → Q (.ref t) G2
def TTc (CB : Addr) : (XK → Hp → VK → Prop) → Hp → VK → Prop := fun tl H Q => tl (EB CB Q) H (fun _ G => Q .non G)
end
section
variable {X : Cx} {CB CE : Addr}
theorem caught_gives {q : Str} {g : Addr} {cdg : Value} (T : TxtCa X.K X.mg CB CE) : LamX.GivesTo X nCaught "_law_caught" (defScope sCaught) g cdg (defBody sCaught) "act" q (TTc CB) := by
  intro f c' s H Q tl act hc h
  have nd := scCaught.nd
  refine ⟨_, pss_cons (L2.ps_try_as (X := (cxOf C8.CX0 X.prog X.w X.K X.mg X.base nCaught "_law_caught" (defScope sCaught) g cdg X.A X.stack s H C8.E0).nox) (c := .ref CB) (i := 1)
      (tb := fun W D σ H => ∃ Ech : XK, (∀ cls d σ' G, Ech cls d G → σ'.length = 2 → W cls d σ' G) ∧ σ[0]? = some (some (.ref f)) ∧ H c' = some (LamX.CodeO c' q) ∧ tl Ech H (fun _ G => D.nx σ G))
      (ts := _) (Wout := fun _ _ _ _ => False) rfl rfl nd rfl rfl ⟨rfl, by decide, Or.inl T.gB⟩ takes0 (fun W pn xe tk _ => ?_)
      (fun a oe cls d pn hz hf => pss_one (ps_ret (pe_tup (pa_cons (pe_xf T.xf T.nH hz hf (pv 1)) (pa_cons (pe_callB (call_isED hz hf) (by rfl) T.isi (by decide +kernel) (pa_cons (pv 1) (pa_cons (pe_glob (v := .ref CE) rfl T.gE rfl) pa_nil))) (pa_cons (pe_callB (call_isED hz hf) (by rfl) T.isi (by decide +kernel) (pa_cons (pv 1) (pa_cons (pe_bltn (v := .ty "ValueError") (by rfl) T.vl (by decide +kernel) rfl) pa_nil)))
        (pa_cons (pe_callB (call_isED hz hf) (by rfl) T.isi (by decide +kernel) (pa_cons (pv 1) (pa_cons (pe_bltn (v := .ty "LookupError") (by rfl) T.lk (by decide +kernel) rfl) pa_nil))) pa_nil))))))))
    (pss_one (ps_ret pe_non)), ?_⟩
  · refine ⟨fun pins s' σ H' D I h' => ?_⟩
    obtain ⟨Ech, hW, h1, h2, h3⟩ := h'
    exact (pss_one (ps_expr (act _ pn xe Ech _ _ (Lm.takes_len tk) (fun cls d σ' G e hl => hW cls d σ' G e hl)))).run pins s' σ H' D I ⟨h1, h2, h3⟩
  · refine ⟨EB CB Q, fun cls d σ' G hE hl => ?_, rfl, hc, h⟩
    obtain ⟨z, dd, rfl, rfl, gd, k⟩ := hE
    have h1 : ∀ y : Addr, (σ'.set 1 (some (.ref y)))[1]? = some (some (.ref y)) := fun y => List.getElem?_set_self (by rw [hl]; decide)
    refine ⟨true, T.exm, fun _ y _ => ?_, fun e => Bool.noConfusion e⟩
    refine ⟨_, h1 y, rfl, rfl, dd, _, .str z, rfl, gd, rfl, _, h1 y, CB, dd, .ref CE, .ref CE, true, _, rfl, rfl, T.exc, rfl, fun u r => r, gd, T.kE, _, h1 y, CB, dd, .ty "ValueError", .type "ValueError", true, _, rfl, rfl, T.exc, rfl, fun u r => r, gd, T.kV, _, h1 y, CB, dd, .ty "LookupError", .type "LookupError", false, _, rfl, rfl, T.exc, rfl, fun u r => r, gd, T.kL, (by show 4 ≤ sizeLine; decide), fun t nt => ?_⟩
    exact k t _ (Lw.Same.new (Same.refl G) nt) upd_same
end
section
variable {P : Program} {w : World} {K : PySem.W.Frag} {mg : Str → Option Value} {base : Heap}
end
end Lw

set_option Elab.async false
set_option linter.all false
set_option maxRecDepth 100000
set_option maxHeartbeats 4000000
namespace Lv
open PySem PySem.Spec PyProof.Rows L2
/-! list(d.values()) -/
def tListVals (te : TE) : TE := fun σ H Q => te σ H fun x H1 => ∃ (d : Addr) (kvs : List (Key × V)), x = .ref d ∧ H1 d = some (.dK kvs) ∧ ∀ p, H1 p = none → Q (.ref p) (upd H1 p (.lst (kvs.map fun kv => kv.2)))
theorem kv_snd {kvs : List (Key × V)} {vs : List (Key × Value)} (h : KV kvs vs) : Vals (kvs.map fun kv => kv.2) (vs.map (·.2)) := by
  unfold KV at h
  induction h with
  | nil => exact .nil
  | cons h1 _ ih => exact .cons h1.2 ih
section
variable {X : Cx} {e : Expr} {te : TE} {p apos cpos pos : Pos}
theorem pe_listVals (hc : X.calm = true) (he : PE X e te) (hg : Gl X "list") (hm : X.mg "list" = none) (hv : bootBuiltins "list" = some (.type "list")) (hbase : attributeBase e "values" X.env (eval e X.env) = eval e X.env := by rfl) (hline : (apos.endLine == cpos.line) = true := by rfl)
    (hs : starEach [.Call (.Attribute e "values" apos) [] [] cpos] X.env = (false, eval (.Call (.Attribute e "values" apos) [] [] cpos) X.env) :: starEach [] X.env := by rfl) :
    PE X (.Call (.Name "list" p) [.Call (.Attribute e "values" apos) [] [] cpos] [] pos) (tListVals te) := by
  refine ⟨fun pins s σ H Q I hq => ?_⟩
  refine wpAny_Call_Name_kw (ld_blt I hg hm hv ?_)
  refine PyProof.Rows.callWith_type1 ?_ hs rfl
  rw [hs]
  show wpAny _ _ (spliced ((false, eval (.Call (.Attribute e "values" apos) [] [] cpos) X.env) :: backTo pos (starEach [] X.env))) _ _ s
  refine Calls.spliced_cons ?_
  refine wpAny_Call_method (T := "dict") (id := "dict.values") hbase rfl hline F.plainAttrs_dict F.slot_dict_values F.type_dict_values (thn (he.run pins s σ H _ I hq) fun u s1 ⟨x, H1, I1, rx, d, kvs, ex, hd, q⟩ => ?_)
  subst ex
  obtain rfl : u = Value.ref d := rx
  obtain ⟨hz, hs0, vs, kv, hdo⟩ := I1.hok d _ hd
  obtain ⟨ep, hat⟩ := hdo.dictAt
  have lk : kvs.length = vs.length := Paired.length kv
  have I2 : Inv X pins σ H1 { s1 with heap := s1.heap.push { cls := .type "dict_values", data := .fields #[.ref d] } } := I1.kept (t' := s1.toks) fun b ob q => Heap.get?_push_of_some _ q
  refine ⟨hdo.typeIs, hdo.mapOf.noDict, ?_⟩
  show wpAny _ _ (callWith cpos (.builtin "dict.values") [.ref d] [] []) _ X.xe s1
  refine method_meetsIn F.slot_dict_values F.entry_dict_values rfl (PySem.evalArgs_none ⟨rfl, hdo.typeIs, F.args_dict_values_1 _, _, PySem.meets_dict_values (mixKind X.prog X.w) d hs0, ⟨vs, hdo⟩, ?_⟩)
  refine Calls.spliced_nil ?_
  refine PySem.W.kdl_call (PySem.W.kdl_values (knd := mixKind X.prog X.w) (kvs := vs) (ep := ep)) (I1.ok.hd hc) ⟨⟨_, Heap.get?_push_size _ rfl, rfl, rfl⟩, hat.push _⟩ (by rw [← lk]; exact hz) fun h' tk acc c' hk hD hacc => ?_
  have ev : acc.toList = vs.map (·.2) := PySem.W.kdl_vals_eq acc.toList (by rw [Array.length_toList]; exact hacc.1) fun j v e => hacc.2 j v (by rw [← Array.getElem?_toList]; exact e)
  have hv2 : Vals (kvs.map fun kv => kv.2) acc.toList := by
    rw [ev]
    exact kv_snd kv
  refine ⟨.ref _, upd H1 _ (.lst (kvs.map fun kv => kv.2)), I2.laid (t' := tk) hk (Nat.le_refl _)
    (show ObjOk X.prog X.w _ _ _ (.lst (kvs.map fun kv => kv.2)) from ⟨by rw [List.length_map]; exact hz, acc.toList, c', hv2, by rw [Array.toArray_toList]; exact hD⟩), rfl, q _ (I2.hok.fresh (Nat.le_refl _))⟩
end
end Lv

set_option Elab.async false
set_option linter.all false
set_option maxRecDepth 100000
set_option maxHeartbeats 40000000
namespace Lw
open PySem PySem.Spec PyProof.Rows L2
section
variable {P : Program} {w : World} {K : PySem.W.Frag} {mg : Str → Option Value} {base : Heap}
/-! the state of one source -/
def first34 : Hv := ⟨.str "stop", .str "stop", .str "stop", .str "one"⟩
theorem first34_right : RightH first34 := by
  show wrongs first34 = []
  decide +kernel
def OkP (a : Addr) (G : Hp) (d : Addr) (y : Hv) : Prop := PlanD G d y ∧ RightH y ∧ d ≠ a
theorem OkP.keep {a d : Addr} {G G' : Hp} {y : Hv} (k : Keep a G G') (h : OkP a G d y) : OkP a G' d y := ⟨k _ _ h.2.2 h.1, h.2⟩
theorem OkP.same {a d : Addr} {G G' : Hp} {y : Hv} (k : Same G G') (h : OkP a G d y) : OkP a G' d y := ⟨k _ _ h.1, h.2⟩
theorem pr_mapH {α β : Type} {R S : α → β → Prop} (k : ∀ a b, R a b → S a b) : ∀ {as : List α} {bs : List β}, Paired R as bs → Paired S as bs
  | _, _, .nil => .nil
  | _, _, .cons r t => .cons (k _ _ r) (pr_mapH k t)
theorem pr_at {α β : Type} {R : α → β → Prop} : ∀ {as : List α} {bs : List β} {i : Nat} {a : α}, Paired R as bs → as[i]? = some a → ∃ b, bs[i]? = some b ∧ R a b
  | _, _, _, _, .nil, h => by cases h
  | _, _, 0, _, .cons r t, h => by cases h; exact ⟨_, rfl, r⟩
  | _, _, i + 1, _, .cons r t, h => pr_at (i := i) t h
theorem sq_asg2 {te : TE} {u : TS} {D : Ends} {σ : L2.St} {H : Hp} {i j : Nat} {K : PySem.W.Frag} (P : V → V → Hp → Prop) (h : ∀ Q : VK, (∀ t x y H', H' t = some (.tup [x, y]) → P x y H' → Q (.ref t) H') → te σ H Q)
    (k : ∀ x y H', P x y H' → u D ((σ.set i (some x)).set j (some y)) H') : tSeq (tAsg te (gTup K 2 (gCons (gName i) (gCons (gName j) gNil)))) u D σ H :=
  h _ fun t x y H' ht p => ⟨t, _, rfl, SqT.of ht, rfl, x, _, rfl, y, _, rfl, rfl, k x y H' p⟩
/-- both ways of an if without an else go on alike -/
theorem sq_ifk {c : TT} {t1 u : TS} {D : Ends} {σ : L2.St} {H : Hp} (P : Bool → Hp → Prop) (P2 : Hp → Prop) (h : ∀ Q : Bool → Hp → Prop, (∀ b H', P b H' → Q b H') → c σ H Q) (kt : ∀ H', P true H' → ∀ N : L2.St → Hp → Prop, (∀ H2, P2 H2 → N σ H2) → t1 { D with nx := N } σ H')
    (kf : ∀ H', P false H' → P2 H') (rest : ∀ H2, P2 H2 → u D σ H2) : tSeq (tIfS c t1 tNext) u D σ H := sq_if1 P h (fun H' p => kt H' p (u D) rest) (fun H' p => rest H' (kf H' p))
def turnsOf (way : Int) : List Str := if way = 0 then [] else if way = 1 then ["present"] else if way = 2 then ["lacking"] else if way = 3 then ["gone"] else if way = 4 then ["shared"] else if way = 5 then ["present", "shared"] else if way = 6 then ["lacking", "gone"] else habNames
theorem ways {way : Int} (h0 : 0 ≤ way) (h8 : way < 8) : way = 0 ∨ way = 1 ∨ way = 2 ∨ way = 3 ∨ way = 4 ∨ way = 5 ∨ way = 6 ∨ way = 7 := by omega
theorem turns_of {way : Int} (h0 : 0 ≤ way) (h8 : way < 8) (y x : Hv) : ∀ h ∈ habNames, (turnH way y x).of h = if h ∈ turnsOf way then x.of h else y.of h := fun h hh => by
  have h4 : h = "present" ∨ h = "lacking" ∨ h = "gone" ∨ h = "shared" := by simpa using hh
  rcases ways h0 h8 with rfl | rfl | rfl | rfl | rfl | rfl | rfl | rfl <;> rcases h4 with rfl | rfl | rfl | rfl <;> rfl
theorem turns_sub {way : Int} (h0 : 0 ≤ way) (h8 : way < 8) : (turnsOf way).Nodup ∧ (turnsOf way).length ≤ 4 ∧ ∀ h ∈ turnsOf way, h ∈ habNames := by
  rcases ways h0 h8 with rfl | rfl | rfl | rfl | rfl | rfl | rfl | rfl <;> exact ⟨by decide, by decide, by decide⟩
theorem put_hab (x : Hv) (v : V) {z : Str} (hz : z ∈ habNames) : ∃ x1 : Hv, (∀ h ∈ habNames, valV (putK (toldV x) (Sum.inr z) v) (Sum.inr h) = some (x1.of h)) ∧ ∀ (P : V → Prop), P x.pr → P x.la → P x.go → P x.sh → P v → P x1.pr ∧ P x1.la ∧ P x1.go ∧ P x1.sh := by
  have h4 : z = "present" ∨ z = "lacking" ∨ z = "gone" ∨ z = "shared" := by simpa using hz
  rcases h4 with rfl | rfl | rfl | rfl
  · exact ⟨{ x with pr := v }, fun h hh => told_of { x with pr := v } hh, fun P a b c d e => ⟨e, b, c, d⟩⟩
  · exact ⟨{ x with la := v }, fun h hh => told_of { x with la := v } hh, fun P a b c d e => ⟨a, e, c, d⟩⟩
  · exact ⟨{ x with go := v }, fun h hh => told_of { x with go := v } hh, fun P a b c d e => ⟨a, b, e, d⟩⟩
  · exact ⟨{ x with sh := v }, fun h hh => told_of { x with sh := v } hh, fun P a b c d e => ⟨a, b, c, e⟩⟩
end
end Lw

set_option Elab.async false
set_option linter.all false
set_option maxRecDepth 100000
set_option maxHeartbeats 40000000
namespace Lw
open PySem PySem.Spec PyProof.Rows L2
abbrev sOne : Stmt := top 19
section
variable {P : Program} {w : World} {K : PySem.W.Frag} {mg : Str → Option Value} {base : Heap}
/-! one source's habits -/
abbrev oneP : He.Defn := ("_law_one", none)
abbrev nOne : List Str := ["source", "first", "plans", "turn", "made", "k", "one", "j", "other", "way", "given", "parts", "turned", "due", "habit", "wrong", "told", "plan", "habits"]
abbrev qLam : Str := (envOfC "_law_one" (defScope sOne) 0 0 .none).qual ++ "<lambda>"
abbrev TL (K : PySem.W.Frag) : List (Addr × Str) := [((He.cT K oneP).2, qLam)]
def spOne (K : PySem.W.Frag) : Sp := fun vs H Q _ => ∃ (a : Addr), vs = [.ref a] ∧ Src H a 0 ∧ LamX.Tabs (TL K) H ∧ ∀ G, (∀ b o, b ≠ a → H b = some o → (∀ ps, o ≠ .tbl ps) → G b = some o) → LamX.Tabs (TL K) G → Q (.bl true) G
structure Cals34 (P : Program) (w : World) (K : PySem.W.Frag) (mg : Str → Option Value) (base : Heap) (CH CB CE : Addr) : Prop where
  draw : Cal P w K mg base CX0 "_law_draw" 1 ["source", "many"] spDrawW
  pick : Cal P w K mg base CX0 "_law_pick" 2 ["source", "some"] (spOf K)
  values : Cal P w K mg base CX0 "_law_values" 1 ["habit"] spValues
  names : Cal P w K mg base CX0 "_law_names_of_habits" 1 [] spNamesH
  plain : Cal P w K mg base CX0 "_law_plain" 3 ["source", "near"] (spPlain K)
  made : Cal P w K mg base CX0 "_law_made" 6 ["given"] (spMadeR CH)
  is : Cal P w K mg base CX0 "_law_is" 2 ["habits", "due"] (spIs CH)
  turned : Cal P w K mg base (L2.CX P w) "_law_turned" 7 ["habits", "way", "given"] (spTurned34 CH CB)
  caught : ∃ g fd, mg "_law_caught" = some (.ref g) ∧ FnP K "_law_caught" sCaught g fd
  eqH : ∃ f fd, Oq.EqC K CH f ∧ FnOk P w K mg base CX0 2 f fd ["self", "other"] (spHabE CH) ∧ Binds K fd ["self", "other"] []
  nfH : ∀ t ∈ ([.ref CH, .type "NoneType", .type "str", .type "dict", .type "list"] : List Value), PySem.W.notFirst K CH t = true
  ca : TxtCa K mg CB CE
  range : mg "range" = none
  len : mg "len" = none
  dict : mg "dict" = none
  list : mg "list" = none
  enum : mg "enumerate" = none
  zip : mg "zip" = none
  all : mg "all" = none
theorem scOne : FnScope nOne ["source"] (defScope sOne) := ⟨rfl, rfl, rfl, by decide +kernel, rfl, by decide +kernel, by decide +kernel⟩
theorem ok_one {CH CB CE : Addr} {fd : FuncData} (F : FnP K "_law_one" sOne (He.fAd K oneP) fd) (c : Cals34 P w K mg base CH CB CE) (TB : LamX.TabB base mg (He.cT K oneP).1 (He.cT K oneP).2) : FnOk P w K mg base CX0 10 (He.fAd K oneP) fd ["source"] (spOne K) := by
  obtain ⟨fNm, fdNm, gNm, kNm, FNm, bNm⟩ := c.names.ex
  obtain ⟨fT, fdT, gT, kT, FT, bT⟩ := c.turned.ex
  obtain ⟨fE, fdE, EH, FE, bE⟩ := c.eqH
  obtain ⟨fC, fdC, gCa, FC⟩ := c.caught
  have kCa := FC.kp
  have bCa : Binds K fdC ["act"] [] := FC.bindsN fun _ _ _ _ _ _ us hl => match us, hl with | [_], _ => rfl
  obtain ⟨ocC, odC, dVC, kVC, docC, pmC, anC, cdC, ctC, oslC, rfl, lkCa, hcCa, _, _⟩ := FC.ex
  refine Lm.okC F scOne (fun vs H Q E h => ?_) (fun cdv A outer s0 H vs Q E hcd hr h => ?_)
  · obtain ⟨a, rfl, _⟩ := h
    rfl
  · obtain ⟨a, rfl, hs, hT, k⟩ := h
    subst hcd
    have nd := scOne.nd
    have h1 : Room 1 _ := hr.mono (by decide)
    have h2 : Room 2 _ := hr.mono (by decide)
    have h3 : Room 3 _ := hr.mono (by decide)
    have h6 : Room 6 _ := hr.mono (by decide)
    have h7 : Room 7 _ := hr.mono (by decide)
    have hu := hu_of hr
    have h9 : sizeLine = 16777216 := by decide
    refine ⟨_, PSs.nox (pss_cons (ps_set (i := 1) nd rfl (Or.inl rfl) (pe_disp (pps_cons pe_str pe_str (pps_cons pe_str pe_str (pps_cons pe_str pe_str (pps_cons pe_str pe_str pps_nil)))) (by rfl) (by rfl) (fun z => by cases z) (by decide)))
      (pss_cons (ps_set (i := 2) nd rfl (Or.inl rfl) (pe_lst (pa_cons (pe_cal c.plain h3 (pa_cons (pv 0) (pa_cons (pv 1) pa_nil))) pa_nil)))
      (pss_cons (ps_for PassesOwn.never rfl (pi_range1 rfl c.range (pa_cons (pe_op op_add pe_int (pe_cal c.draw h1 (pa_cons (pv 0) (pa_cons pe_int pa_nil)))) pa_nil)) (pg_name (i := 3) nd rfl (Or.inl rfl)) (pss_one (ps_expr (pe_bm PySem.F.plainAttrs_list PySem.F.slot_list_append PySem.F.type_list_append mt_append (pv 2) (pa_cons (pe_cal c.plain h3 (pa_cons (pv 0) (pa_cons (pe_ix (r := rIxL K) (by exact ix_list) (pv 2) (pe_un un_neg pe_int) (fun _ _ => rfl)) pa_nil))) pa_nil)))))
      (pss_cons (ps_set (i := 4) nd rfl (Or.inr rfl) (pe_lc (own := [("plan", 17)]) (g := (gName 17)) (tt := tYes) rfl nd (pi_list (pv 2)) (blkOk_by (N := nOne) (sc := defScope sOne) (by decide +kernel)) (fun _ _ _ _ _ => pg_name (i := 17) nd rfl (Or.inl rfl)) (fun _ _ _ _ _ => pts_nil) (fun _ _ _ _ _ => (pe_cal c.made h6 (pa_cons (pv 17) pa_nil)))))
      (pss_cons (ps_for PassesOwn.never rfl (pi_enum (by rfl) c.enum (pa_cons (pv 2) pa_nil)) (pg_tup (by rfl) (pgs_cons (pg_name (i := 5) nd rfl (Or.inl rfl)) (pgs_cons (pg_name (i := 6) nd rfl (Or.inl rfl)) pgs_nil))) (pss_cons (ps_for PassesOwn.never rfl (pi_enum (by rfl) c.enum (pa_cons (pv 2) pa_nil)) (pg_tup (by rfl) (pgs_cons (pg_name (i := 7) nd rfl (Or.inl rfl)) (pgs_cons (pg_name (i := 8) nd rfl (Or.inl rfl)) pgs_nil))) (pss_one (ps_if (PW.pt (pw_or (pt_cmpR op_ne (pe_cmpR (r := Oq.rOwn K CH (spHabE CH) id) (by exact Oq.op_eqI EH FE bE h2) (pe_ix (r := rIxL K) (by exact ix_list) (pv 4) (pv 5) (fun _ _ => rfl)) (pe_cal c.made h6 (pa_cons (pv 8) pa_nil)) (nomark _)) (pe_cmpR (r := rEqDF) (by exact op_eq_dF hr.units) (pv 6) (pv 8) (nomark _)) (nomark _)) (pw_or1 (pt_cmpR op_eq (pe_cmpR (r := Oq.rOwn K CH (spHabE CH) Bool.not) (by exact Oq.op_neI EH FE bE h3) (pe_ix (r := rIxL K) (by exact ix_list) (pv 4) (pv 5) (fun _ _ => rfl)) (pe_ix (r := rIxL K) (by exact ix_list) (pv 4) (pv 7) (fun _ _ => rfl)) (nomark _)) (pe_cmpR (r := rEqDF) (by exact op_eq_dF hr.units) (pv 6) (pv 8) (nomark _)) (nomark _))))) (pss_one (ps_ret pe_bl)) pss_nil)))
      (pss_one (ps_if (PW.pt (pw_or (pt_cmpR (r := Oq.rOwn K CH (spHabE CH) id) (by exact Oq.op_eqI EH FE bE h2) (pe_ix (r := rIxL K) (by exact ix_list) (pv 4) (pv 5) (fun _ _ => rfl)) (pv 6) (nomark _)) (pw_or (pt_cmpR (r := Oq.rOwn K CH (spHabE CH) id) (by exact Oq.op_eqI EH FE bE h2) (pe_ix (r := rIxL K) (by exact ix_list) (pv 4) (pv 5) (fun _ _ => rfl)) pe_non (nomark _)) (pw_or (pt_cmpR (r := Oq.rOwn K CH (spHabE CH) id) (by exact Oq.op_eqI EH FE bE h2) (pe_ix (r := rIxL K) (by exact ix_list) (pv 4) (pv 5) (fun _ _ => rfl)) pe_str (nomark _)) (pw_or1 (pt_not (pt_cmpR (r := Oq.rOwn K CH (spHabE CH) Bool.not) (by exact Oq.op_neI EH FE bE h3) (pe_ix (r := rIxL K) (by exact ix_list) (pv 4) (pv 5) (fun _ _ => rfl)) (Lv.pe_listVals (by rfl) (pv 6) (by rfl) c.list (by decide +kernel)) (nomark _)))))))) (pss_one (ps_ret pe_bl)) pss_nil))))
      (pss_cons (ps_asg (pe_tup (pa_cons (pe_cal c.draw h1 (pa_cons (pv 0) (pa_cons pe_int pa_nil))) (pa_cons (pe_cal c.plain h3 (pa_cons (pv 0) (pa_cons (pe_ix (r := rIxL K) (by exact ix_list) (pv 2) pe_int (fun _ _ => rfl)) pa_nil))) pa_nil))) (pg_tup (by rfl) (pgs_cons (pg_name (i := 9) nd rfl (Or.inr rfl)) (pgs_cons (pg_name (i := 10) nd rfl (Or.inr rfl)) pgs_nil))))
      (pss_cons (ps_if (pt_cmpR op_eq (pe_cal c.draw h1 (pa_cons (pv 0) (pa_cons pe_int pa_nil))) pe_int (nomark _)) (pss_one (ps_dput hu (pv 10) (pe_cal c.pick h2 (pa_cons (pv 0) (pa_cons (pe_call0 FNm h1 rfl gNm kNm bNm .nil pass0) pa_nil))) (pe_cal c.pick h2 (pa_cons (pv 0) (pa_cons (pe_lst (pa_cons pe_str (pa_cons pe_str (pa_cons pe_non (pa_cons pe_int (pa_cons (pe_lst (pa_cons pe_str pa_nil)) (pa_cons pe_str pa_nil))))))) pa_nil))) rfl)) pss_nil)
      (pss_cons (ps_set (i := 11) nd rfl (Or.inl rfl) (pe_lst (pa_cons (pe_lst (pa_cons pe_str pa_nil)) (pa_cons (pe_lst (pa_cons pe_str pa_nil)) (pa_cons (pe_lst (pa_cons pe_str pa_nil)) (pa_cons (pe_lst (pa_cons pe_str pa_nil)) (pa_cons (pe_lst (pa_cons pe_str (pa_cons pe_str pa_nil))) (pa_cons (pe_lst (pa_cons pe_str (pa_cons pe_str pa_nil))) pa_nil))))))))
      (pss_cons (ps_set (i := 12) nd rfl (Or.inl rfl) (pe_ifExp (pt_cmpR op_eq (pv 9) pe_int (nomark _)) (pe_lst pa_nil) (pe_ix (r := rIxL K) (by exact ix_list) (pe_op op_cat (pv 11) (pe_lst (pa_cons (pe_call0 FNm h1 rfl gNm kNm bNm .nil pass0) pa_nil))) (pe_op op_sub (pv 9) pe_int) (fun _ _ => rfl))))
      (pss_cons (ps_set (i := 13) nd rfl (Or.inr rfl) (pe_callTy call_dictD (by rfl) c.dict (by decide +kernel) (pa_cons (pe_ix (r := rIxL K) (by exact ix_list) (pv 2) pe_int (fun _ _ => rfl)) pa_nil)))
      (pss_cons (ps_for PassesOwn.never rfl (pi_list (pv 12)) (pg_name (i := 14) nd rfl (Or.inl rfl)) (pss_one (ps_dput hu (pv 13) (pv 14) (pe_dget hu (pv 10) (pv 14) (fun _ _ => rfl)) rfl)))
      (pss_cons (ps_setLc (i := 15) (own := [("habit", 14)]) (g := (gName 14)) rfl nd rfl rfl (sw_true rfl rfl rfl (by decide +kernel)) (pi_list (pe_call0 FNm h1 rfl gNm kNm bNm .nil pass0)) (blkOk_by (N := nOne) (sc := defScope sOne) (by decide +kernel)) (fun _ _ _ _ _ => pg_name (i := 14) nd rfl (Or.inl rfl)) (fun _ _ _ _ _ => pts_one (pt_cmpR (r := Iw.rInW K true) (by exact Iw.op_notInW hr.units) (pe_dget hu (pv 13) (pv 14) (fun _ _ => rfl)) (pe_cal c.values h1 (pa_cons (pv 14) pa_nil)) (by rfl))) (fun _ _ _ _ _ => pv 14))
      (pss_cons (ps_set (i := 16) nd rfl (Or.inl rfl) (LamX.pe_lamcall (T := [((He.cT K oneP).2, qLam)]) (TT := TTc CB) (k := 7) rfl gCa kCa lkCa hcCa bCa scCaught rfl (Or.inl rfl) (caught_gives c.ca) TB rfl (List.mem_singleton.mpr rfl) (fun p hp _ => by rw [List.mem_singleton.mp hp] <;> rfl) hr (LamX.lamS_by (show LamX.lamSB (defScope sOne) _ = true by decide +kernel)) rfl (fun _ _ _ _ _ => rfl) (fun A' outer' s' H' E' f' c' hr' => pe_call FT hr' rfl gT kT bT .nil (L2.passes_call (W := fun cls d _ G => E' cls d G) (L2.takes_of rfl rfl rfl rfl) (fun _ _ _ _ h => h)) (pa_cons (pe_ix (r := rIxL K) (by exact ix_list) (pv 4) pe_int (fun _ _ => rfl)) (pa_cons (pv 9) (pa_cons (pv 10) pa_nil))))))
      (pss_cons (ps_if (pt_cmpR (op_neD hr.units) (pv 15) (pe_lst pa_nil) (nomark _)) (pss_one (ps_ret (pe_and (pe_cmpR (op_eqD hr.units) (pv 16) (pe_tup (pa_cons (pe_ix (r := rIxL K) (by exact ix_list) (pv 15) pe_int (fun _ _ => rfl)) (pa_cons pe_bl (pa_cons pe_bl (pa_cons pe_bl pa_nil))))) (nomark _)) (pe_one (pe_cal c.is h2 (pa_cons (pe_ix (r := rIxL K) (by exact ix_list) (pv 4) pe_int (fun _ _ => rfl)) (pa_cons (pe_ix (r := rIxL K) (by exact ix_list) (pv 2) pe_int (fun _ _ => rfl)) pa_nil))))))) pss_nil)
      (pss_cons (ps_if (PW.pt (pw_or (pt_cmpR op_notN (pv 16) pe_non (by rfl)) (pw_or1 (pt_not (pt_val (pe_cal c.is h2 (pa_cons (pe_call FT h7 rfl gT kT bT .nil L2.passL (pa_cons (pe_ix (r := rIxL K) (by exact ix_list) (pv 4) pe_int (fun _ _ => rfl)) (pa_cons (pv 9) (pa_cons (pv 10) pa_nil)))) (pa_cons (pv 13) pa_nil)))))))) (pss_one (ps_ret pe_bl)) pss_nil)
      (pss_one (ps_ret (pe_callB (cr_all rfl) (by rfl) c.all (by decide +kernel) (pa_cons (pe_lc (own := [("habits", 18), ("plan", 17)]) (g := (gTup K 2 (gCons (gName 18) (gCons (gName 17) gNil)))) (tt := tYes) rfl nd (pi_zip (by rfl) c.zip (pa_cons (pv 4) (pa_cons (pv 2) pa_nil))) (blkOk_by (N := nOne) (sc := defScope sOne) (by decide +kernel)) (fun _ _ _ _ _ => pg_tup (by rfl) (pgs_cons (pg_name (i := 18) nd rfl (Or.inl rfl)) (pgs_cons (pg_name (i := 17) nd rfl (Or.inl rfl)) pgs_nil))) (fun _ _ _ _ _ => pts_nil) (fun _ _ _ _ _ => (pe_cal c.is h2 (pa_cons (pv 18) (pa_cons (pv 17) pa_nil))))) pa_nil))))))))))))))))))), ?_⟩
    refine sq_set (fun x G => ∃ f, x = .ref f ∧ H f = none ∧ Same H G ∧ PlanD G f first34) (fun Q q => fun d nd2 => ⟨upd_same, toldV first34, rfl, (by show 4 ≤ 15; decide), q _ _ ⟨d, rfl, nd2, same_at nd2 (Lw.Same.new (Same.refl H) nd2), upd_same⟩⟩) ?_
    rintro _ G1 ⟨f, rfl, nf, sH1, pf⟩
    have S1 := hs.same sH1
    have fa : f ≠ a := hs.ne nf
    refine sq_set (fun x G => ∃ L d y, x = .ref L ∧ G1 L = none ∧ L ≠ a ∧ Keep a H G ∧ Src G a 20 ∧ G L = some (.lst [.ref d]) ∧ OkP a G d y) (fun Q q => ?_) ?_
    · refine ⟨_, rfl, _, rfl, a, f, 0, first34, rfl, S1, by decide, pf, first34_right, fa, fun d G y k2 S2 nd2 pd rd => ⟨(by show 1 ≤ sizeLine; decide), fun L nL => ?_⟩⟩
      have da : d ≠ a := S1.ne nd2
      have La : L ≠ a := S2.ne nL
      have nL1 : G1 L = none := by
        cases z : G1 L with
        | none => rfl
        | some o => rw [k2 _ _ La z] at nL; cases nL
      have sL := Lw.Same.new (o := .lst [.ref d]) (Same.refl G) nL
      exact q _ _ ⟨L, d, y, rfl, nL1, La, fun b o nb e => sL _ _ (k2 _ _ nb (sH1 _ _ e)), S2.new nL, upd_same, sL _ _ pd, rd, da⟩
    rintro _ G2 ⟨L, d, y, rfl, nL1, La, kH2, S2, gL2, okd⟩
    have nLH : H L = none := none_of_same sH1 nL1
    refine ⟨_, rfl, a, _, _, rfl, S2, by decide, by decide, by decide, fun G3 m k3 S3 m0 m1 => ⟨_, _, rfl, rfl, _, rfl, by omega, by omega, ?_⟩⟩
    generalize hnk : Int.toNat _ = nk
    have lnk : 1 ≤ nk ∧ nk ≤ 2 := by omega
    have kH3 : Keep a H G3 := fun b o nb e => k3 _ _ nb (kH2 _ _ nb e)
    refine for_range (lo := 0) (fun i σ G => ∃ (v3 : Option V) (ds : List Addr) (ys : List Hv) (d : Addr) (y : Hv), σ = [some (.ref a), some (.ref f), some (.ref L), v3, none, none, none, none, none, none, none, none, none, none, none, none, none, none, none] ∧ Keep a H G ∧ Src G a (21 + 20 * i) ∧ G L = some (.lst (ds.map V.ref ++ [.ref d])) ∧ Paired (OkP a G) ds ys ∧ OkP a G d y ∧ ds.length = i)
      ⟨_, [], [], d, y, rfl, kH3, S3, k3 _ _ La gL2, .nil, okd.keep k3, rfl⟩ ?_ ?_
    · rintro i σ G hi ⟨v3, ds, ys, d, y, rfl, kG, SG, gL, pr, okd, ld⟩
      refine g_name ?_
      have hi2 : i < 2 := by omega
      refine ⟨_, rfl, .inl ⟨rfl, _, SqL.of gL⟩, _, rfl, _, rfl, _, rfl, L, _, _, .ref d, rfl, rfl, SqL.of gL, atI_last _ _, a, d, _, y, rfl, SG, by omega, okd.1, okd.2.1, okd.2.2, fun q G4 y4 k4 S4 nq pq rq => ?_⟩
      have gL4 := k4 _ _ La gL
      have okd4 := okd.keep k4
      have pr4 : Paired (OkP a G4) ds ys := pr_mapH (fun _ _ h => h.keep k4) pr
      refine ⟨L, _, _, rfl, rfl, gL4, by rw [List.length_append, List.length_map, ld]; show i + 1 < sizeLine; omega, ?_⟩
      have mv : ∀ {o : HO} {e : Addr} {z : Hv}, OkP a G4 e z → OkP a (upd G4 L o) e z := fun {o e z} h => ⟨by
        show upd G4 L o e = _
        rw [upd_ne (fun q => by subst q; have h1 : G4 e = some (.dK (toldV z)) := h.1; rw [gL4] at h1; cases h1)]
        exact h.1, h.2⟩
      refine ⟨_, ds ++ [d], ys ++ [y], q, y4, rfl, fun b o nb e => ?_, ?_, ?_, (pr_mapH (fun _ _ h => mv h) pr4).snoc (mv okd4), mv ⟨pq, rq, SG.ne nq⟩, by rw [List.length_append, ld]; rfl⟩
      · rw [upd_ne (ne_of_none e nLH)]
        exact k4 _ _ nb (kG _ _ nb e)
      · obtain ⟨x1, x2, x3, y1, y2⟩ := S4.mono (show 21 + 20 * i + 20 ≤ 21 + 20 * (i + 1) by omega)
        exact ⟨x1, x2, x3, by rw [upd_ne La.symm]; exact y1, y2⟩
      · rw [upd_same, List.map_append]
        rfl
    · rintro σ G4 ⟨v3, ds0, ys0, d0, y0, rfl, kH4, S4, gL4', pr0, okd0, ld⟩
      have prs : Paired (OkP a G4) (ds0 ++ [d0]) (ys0 ++ [y0]) := pr0.snoc okd0
      have gL4 : G4 L = some (.lst ((ds0 ++ [d0]).map V.ref)) := by
        rw [gL4', List.map_append]
        rfl
      have lds : (ds0 ++ [d0]).length = nk + 1 := by rw [List.length_append, ld]; rfl
      clear pr0 okd0 ld gL4'
      generalize ds0 ++ [d0] = ds at prs gL4 lds
      generalize ys0 ++ [y0] = ys at prs
      have lys : ys.length = nk + 1 := prs.length.symm.trans lds
      dsimp only
      refine sq_set (fun x G5 => ∃ M hs5, x = .ref M ∧ M ≠ a ∧ G4 M = none ∧ Same G4 G5 ∧ G5 M = some (.lst (hs5.map V.ref)) ∧ Paired (HabAtV CH G5) hs5 ys) (fun Q q => ?_) ?_
      · refine ⟨_, rfl, L, rfl, ⟨_, SqL.of gL4⟩, fun D nD => ?_⟩
        refine lc_list (xs := ds.map V.ref) (fun i G => Same G4 G ∧ ∃ hs5 : List Addr, G D = some (.lst (hs5.map V.ref)) ∧ hs5.length = i ∧ Paired (fun h y => HabAtV CH G h y ∧ h ≠ D) hs5 (ys.take i)) ⟨Lw.Same.new (Same.refl G4) nD, [], upd_same, rfl, .nil⟩ (fun i G _ h => SqL.of (h.1 _ _ gL4)) ?_ ?_
        · rintro i x G hx ⟨sG, hs5, gD, lh, prh⟩
          rw [List.getElem?_map] at hx
          obtain ⟨e, he, rfl⟩ := Option.map_eq_some_iff.mp hx
          obtain ⟨y, hy, oke⟩ := pr_at prs he
          have hi : i < nk + 1 := by rw [← lds]; exact (List.getElem?_eq_some_iff.mp he).1
          refine ⟨rfl, _, rfl, e, y, rfl, sG _ _ oke.1, oke.2.1, fun h G6 s6 nh hab => ?_⟩
          have hD : h ≠ D := (ne_of_none gD nh).symm
          refine ⟨_, s6 _ _ gD, by rw [List.length_map]; omega, same_at nD (sG.trans s6), hs5 ++ [h], by rw [upd_same, List.map_append]; rfl, by rw [List.length_append, lh]; rfl, ?_⟩
          rw [take_one hy]
          have mvD : ∀ {o : HO} {h : Addr} {y : Hv}, HabAtV CH G6 h y → h ≠ D → HabAtV CH (upd G6 D o) h y := fun {o h y} ⟨dx, e⟩ n => ⟨dx, by rw [upd_ne n]; exact e⟩
          exact (pr_mapH (fun _ _ ⟨⟨dx, e⟩, n⟩ => ⟨mvD ⟨dx, s6 _ _ e⟩ n, n⟩) prh).snoc ⟨mvD hab hD, hD⟩
        · rintro G ⟨sG, hs5, gD, lh, prh⟩
          rw [List.length_map, lds, ← lys, List.take_length] at prh
          exact q _ _ ⟨D, hs5, rfl, S4.ne nD, nD, sG, gD, pr_mapH (fun _ _ h => h.1) prh⟩
      rintro _ G5 ⟨M, ms, rfl, Ma, nM, s5, gM5, prm⟩
      have gL5 := s5 _ _ gL4
      have prs5 : Paired (OkP a G5) ds ys := pr_mapH (fun _ _ h => h.same s5) prs
      have S5 := S4.same s5
      have kH5 : Keep a H G5 := fun b o nb e => s5 _ _ (kH4 _ _ nb e)
      have lms : ms.length = nk + 1 := prm.length.trans lys
      clear gL4 prs S4 kH4 nM s5
      have at5 : ∀ {G : Hp} {i : Nat} {e : Addr}, Same G5 G → ds[i]? = some e → ∃ (y : Hv) (h dx : Addr), ys[i]? = some y ∧ PlanD G e y ∧ RightH y ∧ ms[i]? = some h ∧ G h = some (.ins CH dx [("present", y.pr), ("lacking", y.la), ("gone", y.go), ("shared", y.sh)]) := fun {G i e} s he => by
        obtain ⟨y, hy, ok⟩ := pr_at prs5 he
        have hi : i < ms.length := by rw [lms, ← lds]; exact (List.getElem?_eq_some_iff.mp he).1
        obtain ⟨y2, hy2, dx, hab⟩ := pr_at prm (List.getElem?_eq_getElem hi)
        rw [hy] at hy2
        cases hy2
        exact ⟨y, _, dx, hy, s _ _ ok.1, ok.2.1, List.getElem?_eq_getElem hi, s _ _ hab⟩
      have nf : ∀ t ∈ ([.ref CH, .type "NoneType", .type "str", .type "dict", .type "list"] : List Value), PySem.W.notFirst K CH t = true := c.nfH
      refine ⟨_, rfl, L, _, rfl, SqL.of gL5, ?_⟩
      refine for_it (walk_enum (xs := ds.map V.ref)) (fun i σ G => ∃ (v5 v6 v7 v8 : Option V), σ = [some (.ref a), some (.ref f), some (.ref L), v3, some (.ref M), v5, v6, v7, v8, none, none, none, none, none, none, none, none, none, none] ∧ Same G5 G) ⟨_, _, _, _, rfl, Same.refl G5⟩ (fun i σ G _ ⟨_, _, _, _, _, s⟩ => SqL.of (s _ _ gL5)) ?_ ?_
      · rintro i x σ G G' hi ⟨v5, v6, v7, v8, rfl, sG⟩ ⟨T, x1, y1, rfl, nT, rfl, e1, e2⟩
        cases e1
        have e3 : (ds.map V.ref)[i]? = some y1 := e2
        rw [List.getElem?_map] at e3
        obtain ⟨e, he, rfl⟩ := Option.map_eq_some_iff.mp e3
        refine ⟨T, _, rfl, SqT.of upd_same, rfl, _, _, rfl, _, _, rfl, rfl, ?_⟩
        have sT := sG.trans (Lw.Same.new (o := .tup [.int (i : Nat), .ref e]) (Same.refl G) nT)
        generalize upd G T (.tup [.int (i : Nat), .ref e]) = G6 at sT ⊢
        dsimp only
        refine ⟨_, rfl, L, _, rfl, SqL.of (sT _ _ gL5), ?_⟩
        refine for_it (walk_enum (xs := ds.map V.ref)) (fun j σ G => ∃ (v7 v8 : Option V), σ = [some (.ref a), some (.ref f), some (.ref L), v3, some (.ref M), some (.int (i : Nat)), some (.ref e), v7, v8, none, none, none, none, none, none, none, none, none, none] ∧ Same G5 G) ⟨_, _, rfl, sT⟩ (fun i σ G _ ⟨_, _, _, s⟩ => SqL.of (s _ _ gL5)) ?_ ?_
        · rintro j x σ G7 G' hj ⟨v7, v8, rfl, s7⟩ ⟨T2, x1, y1, rfl, nT2, rfl, e1, e4⟩
          cases e1
          have e5 : (ds.map V.ref)[j]? = some y1 := e4
          rw [List.getElem?_map] at e5
          obtain ⟨e', he', rfl⟩ := Option.map_eq_some_iff.mp e5
          refine ⟨T2, _, rfl, SqT.of upd_same, rfl, _, _, rfl, _, _, rfl, rfl, ?_⟩
          have s8 := s7.trans (Lw.Same.new (o := .tup [.int (j : Nat), .ref e']) (Same.refl G7) nT2)
          generalize upd G7 T2 (.tup [.int (j : Nat), .ref e']) = G8 at s8 ⊢
          refine s1_if (fun b G9 => Same G8 G9 ∧ b = false) (fun Q q => ?_) (fun G9 ⟨_, e⟩ => by cases e) (fun G9 ⟨s9, _⟩ => ⟨_, _, rfl, s8.trans s9⟩)
          obtain ⟨yi, hi', dxi, eyi, pi, ri, emi, ii⟩ := at5 s8 he
          obtain ⟨yj, hj', dxj, eyj, pj, rj, emj, ij⟩ := at5 s8 he'
          have gM8 := s8 _ _ gM5
          have atM : ∀ {n : Nat} {h : Addr}, ms[n]? = some h → atI (ms.map V.ref) (n : Int) = some (.ref h) := fun {n h} hh => atI_nat (by rw [List.getElem?_map, hh]; rfl)
          refine ⟨_, rfl, _, rfl, M, _, _, .ref hi', rfl, rfl, SqL.of gM8, atM emi, _, rfl, e', yj, rfl, pj, rj, fun h2 G9 s9 n9 hab9 => ?_⟩
          obtain ⟨dx9, i9⟩ := id hab9
          refine ⟨hi', dxi, _, .ref CH, rfl, s9 _ _ ii, .ins i9, nf _ (by simp), hi', .ref h2, yi, rfl, ⟨dxi, s9 _ _ ii⟩, right_flat ri, .inl ⟨h2, yj, rfl, hab9, right_flat rj, fun Ga sa => ⟨_, rfl, ?_⟩⟩⟩
          have sA := s9.trans sa
          refine ⟨_, rfl, _, rfl, e, e', _, _, rfl, rfl, sA _ _ pi, sA _ _ pj, told_nodup yi, (right_flat ri).all, (right_flat rj).all, ?_⟩
          refine ⟨rfl, _, rfl, itFb (by show (!decide (V.bl (sameH yi yj) = V.bl (sameH yi yj))) = false; simp) ?_⟩
          have gMa := sA _ _ gM8
          refine ⟨_, rfl, _, rfl, M, _, _, .ref hi', rfl, rfl, SqL.of gMa, atM emi, _, rfl, _, rfl, M, _, _, .ref hj', rfl, rfl, SqL.of gMa, atM emj, ?_⟩
          refine ⟨hi', dxi, _, .ref CH, rfl, sA _ _ ii, .ins (sA _ _ ij), nf _ (by simp), hi', .ref hj', yi, rfl, ⟨dxi, sA _ _ ii⟩, right_flat ri, .inl ⟨hj', yj, rfl, ⟨dxj, sA _ _ ij⟩, right_flat rj, fun Gb sb => ⟨_, rfl, ?_⟩⟩⟩
          have sB := sA.trans sb
          refine ⟨_, rfl, _, rfl, e, e', _, _, rfl, rfl, sB _ _ pi, sB _ _ pj, told_nodup yi, (right_flat ri).all, (right_flat rj).all, rfl, _, rfl, q _ _ ⟨sB, ?_⟩⟩
          show decide (V.bl (!(sameH yi yj)) = V.bl (sameH yi yj)) = false
          cases sameH yi yj <;> rfl
        · rintro σ G7 ⟨v7, v8, rfl, s7⟩
          dsimp only
          refine s1_if (fun b G9 => Same G7 G9 ∧ b = false) (fun Q q => ?_) (fun G9 ⟨_, e⟩ => by cases e) (fun G9 ⟨s9, _⟩ => ⟨_, _, _, _, rfl, s7.trans s9⟩)
          obtain ⟨yi, hi', dxi, eyi, pi, ri, emi, ii⟩ := at5 s7 he
          have gM7 := s7 _ _ gM5
          have atM : atI (ms.map V.ref) (i : Int) = some (.ref hi') := atI_nat (by rw [List.getElem?_map, emi]; rfl)
          refine ⟨_, rfl, _, rfl, M, _, _, .ref hi', rfl, rfl, SqL.of gM7, atM, _, rfl, hi', dxi, _, .type "dict", rfl, ii, .dic pi, nf _ (by simp), hi', .ref e, yi, rfl, ⟨dxi, ii⟩, right_flat ri, .inr ⟨.dic pi, ⟨_, rfl, _, rfl, itFb rfl ?_⟩⟩⟩
          refine ⟨_, rfl, _, rfl, M, _, _, .ref hi', rfl, rfl, SqL.of gM7, atM, hi', dxi, _, .type "NoneType", rfl, ii, .non, nf _ (by simp), hi', .non, yi, rfl, ⟨dxi, ii⟩, right_flat ri, .inr ⟨.non, ⟨_, rfl, _, rfl, itFb rfl ?_⟩⟩⟩
          refine ⟨_, rfl, _, rfl, M, _, _, .ref hi', rfl, rfl, SqL.of gM7, atM, hi', dxi, _, .type "str", rfl, ii, .str _, nf _ (by simp), hi', .str _, yi, rfl, ⟨dxi, ii⟩, right_flat ri, .inr ⟨.str _, ⟨_, rfl, _, rfl, itFb rfl ?_⟩⟩⟩
          refine ⟨_, rfl, _, rfl, M, _, _, .ref hi', rfl, rfl, SqL.of gM7, atM, _, rfl, e, _, rfl, pi, fun lv nlv => ?_⟩
          have sl := Lw.Same.new (o := .lst ((toldV yi).map fun kv => kv.2)) (Same.refl G7) nlv
          have gl : (upd G7 lv (.lst ((toldV yi).map fun kv => kv.2))) lv = some (.lst ((toldV yi).map fun kv => kv.2)) := upd_same
          exact ⟨hi', dxi, _, .type "list", rfl, sl _ _ ii, .lst gl, nf _ (by simp), hi', .ref lv, yi, rfl, ⟨dxi, sl _ _ ii⟩, right_flat ri, .inr ⟨.lst gl, ⟨_, rfl, _, rfl, q _ _ ⟨sl, rfl⟩⟩⟩⟩
      · rintro σ G ⟨v5, v6, v7, v8, rfl, sG⟩
        dsimp only
        obtain ⟨d0, hd0⟩ : ∃ d0, ds[0]? = some d0 := ⟨ds[0]'(by omega), List.getElem?_eq_getElem _⟩
        obtain ⟨y0, h0, dx0, ey0, p0, r0, em0, i0⟩ := at5 sG hd0
        have gLG := sG _ _ gL5
        have gMG := sG _ _ gM5
        have SG := S5.same sG
        have d0a : d0 ≠ a := fun e => by
          obtain ⟨_, _, _, z, _⟩ := SG
          rw [← e, show G d0 = some (.dK (toldV y0)) from p0] at z
          cases z
        have h0a : h0 ≠ a := fun e => by
          obtain ⟨_, _, _, z, _⟩ := SG
          rw [← e, i0] at z
          cases z
        refine sq_asg2 (fun u v G6 => ∃ (way : Int) (g : Addr) (x : Hv), u = .int way ∧ v = .ref g ∧ 0 ≤ way ∧ way < 8 ∧ Keep a G G6 ∧ Src G6 a 90 ∧ PlanD G6 g x ∧ RightH x ∧ g ≠ a ∧ G g = none) (fun Q q => ?_) ?_
        · refine ⟨_, rfl, a, _, _, rfl, SG, by omega, by decide, by decide, fun G6 m k6 S6 m0 m1 => ?_⟩
          refine ⟨_, rfl, _, rfl, L, _, _, .ref d0, rfl, rfl, SqL.of (k6 _ _ La gLG), (atI_nat (j := 0) (by rw [List.getElem?_map, hd0]; rfl)), a, d0, _, y0, rfl, S6, by omega, k6 _ _ d0a p0, r0, d0a, fun g G7 x k7 S7 ng pg rg => ⟨(by show 2 ≤ sizeLine; decide), fun t nt => ?_⟩⟩
          have ga : g ≠ a := S6.ne ng
          have st := Lw.Same.new (o := .tup [.int m, .ref g]) (Same.refl G7) nt
          have ng0 : G g = none := by
            cases z : G g with
            | none => rfl
            | some o => rw [k6 _ _ ga z] at ng; cases ng
          exact q _ _ _ _ upd_same ⟨m, g, x, rfl, rfl, m0, m1, fun b o nb e => st _ _ (k7 _ _ nb (k6 _ _ nb e)), (S7.same st).mono (by omega), st _ _ pg, rg, ga, ng0⟩
        rintro _ _ G6 ⟨way, g, x0, rfl, rfl, w0, w8, k6, S6, pg, rg, ga, ng⟩
        have og : ∀ {b : Addr} {o : HO}, G b = some o → b ≠ g := fun {b o} e => ne_of_none e ng
        refine sq_ifk (fun b G7 => Keep a G6 G7 ∧ Src G7 a 91) (fun G8 => (∀ b o, b ≠ a → b ≠ g → G6 b = some o → G8 b = some o) ∧ Src G8 a 95 ∧ ∃ x, GivD G8 g x ∧ PlH a G8 x) (fun Q q => ?_) ?_ ?_ ?_
        · exact ⟨_, rfl, a, _, _, rfl, S6, by decide, by decide, by decide, fun G7 m k7 S7 m0 m1 => ⟨rfl, _, rfl, q _ _ ⟨k7, S7⟩⟩⟩
        · rintro G7 ⟨k7, S7⟩ N hN
          have pg7 : PlanD G7 g x0 := k7 _ _ ga pg
          refine ⟨_, rfl, (by show 1 ≤ sizeLine; decide), fun l1 n1 => ⟨(by show 6 ≤ sizeLine; decide), fun l2 n2 => ?_⟩⟩
          have t1 := Lw.Same.new (o := .lst [.str "one"]) (Same.refl G7) n1
          have g1 : (upd G7 l1 (.lst [.str "one"])) l1 = some (.lst [.str "one"]) := upd_same
          have l1a : l1 ≠ a := S7.ne n1
          have l1g : l1 ≠ g := (ne_of_none pg7 n1).symm
          generalize upd G7 l1 (.lst [.str "one"]) = A1 at n2 t1 g1 ⊢
          have l2a : l2 ≠ a := (S7.same t1).ne n2
          have t2 := Lw.Same.new (o := .lst [.str "none", .str "", .non, .int 3, .ref l1, .str "ones"]) (Same.refl A1) n2
          have g2 : (upd A1 l2 (.lst [.str "none", .str "", .non, .int 3, .ref l1, .str "ones"])) l2 = some (.lst [.str "none", .str "", .non, .int 3, .ref l1, .str "ones"]) := upd_same
          generalize upd A1 l2 (.lst [.str "none", .str "", .non, .int 3, .ref l1, .str "ones"]) = A2 at t2 g2 ⊢
          have t12 := t1.trans t2
          refine ⟨a, l2, _, _, rfl, S7.same t12, by decide, l2a, SqL.of g2, by simp, (by show 6 ≤ 100000; decide), fun G8 v k8 S8 hv => ?_⟩
          refine ⟨_, rfl, _, rfl, rfl, fun hl Ga sa nhl ghl => ?_⟩
          refine ⟨a, hl, _, _, rfl, S8.same sa, by decide, S8.ne nhl, SqL.of ghl, by simp, (by show 4 ≤ 100000; decide), fun G9 kz k9 S9 hk => ?_⟩
          obtain ⟨z, hz, rfl⟩ := List.mem_map.mp hk
          have kall : ∀ b o, b ≠ a → G7 b = some o → G9 b = some o := fun b o nb e => k9 _ _ nb (sa _ _ (k8 _ _ nb (t12 _ _ e)))
          have pg9 : PlanD G9 g x0 := kall _ _ ga pg7
          refine ⟨g, _, rfl, DPut.k (k := Sum.inr z) pg9 (by show 4 < sizeLine; decide), hN _ ⟨fun b o nb ng2 e => ?_, ?_, ?_⟩⟩
          · rw [upd_ne ng2]
            exact kall _ _ nb (k7 _ _ nb e)
          · obtain ⟨x1, x2, x3, y1, y2⟩ := S9.mono (show 91 + 1 + 1 ≤ 95 by decide)
            exact ⟨x1, x2, x3, by rw [upd_ne ga.symm]; exact y1, y2⟩
          · have pv : PlV a (upd G9 g (.dK (putK (toldV x0) (Sum.inr z) v))) v := by
              simp only [List.mem_cons, List.not_mem_nil, or_false] at hv
              rcases hv with rfl | rfl | rfl | rfl | rfl | rfl
              · exact .str _
              · exact .str _
              · exact .non
              · exact .int _
              · exact .box l1a (.lst (xs := [.str "one"]) (by rw [upd_ne l1g]; exact k9 _ _ l1a (sa _ _ (k8 _ _ l1a (t2 _ _ g1)))))
              · exact .str _
            have px := right_pl (a := a) (H := upd G9 g (.dK (putK (toldV x0) (Sum.inr z) v))) rg
            obtain ⟨x1, e1, e2⟩ := put_hab x0 v hz
            refine ⟨x1, ⟨_, upd_same, e1⟩, ?_⟩
            obtain ⟨f1, f2, f3, f4⟩ := e2 (PlV a (upd G9 g (.dK (putK (toldV x0) (Sum.inr z) v)))) px.pr px.la px.go px.sh pv
            exact ⟨f1, f2, f3, f4⟩
        · rintro G7 ⟨k7, S7⟩
          have pg7 : PlanD G7 g x0 := k7 _ _ ga pg
          exact ⟨fun b o nb _ e => k7 _ _ nb e, S7.mono (by decide), x0, pg7.giv, right_pl rg⟩
        rintro G8 ⟨k8, S8, x, hg8, px8⟩
        refine sq_set (fun u G9 => ∃ pl q1 q2 q3 q4 q5 q6, u = .ref pl ∧ Same G8 G9 ∧ G9 pl = some (.lst [.ref q1, .ref q2, .ref q3, .ref q4, .ref q5, .ref q6]) ∧ G9 q1 = some (.lst [.str "present"]) ∧ G9 q2 = some (.lst [.str "lacking"]) ∧ G9 q3 = some (.lst [.str "gone"]) ∧ G9 q4 = some (.lst [.str "shared"]) ∧ G9 q5 = some (.lst [.str "present", .str "shared"]) ∧ G9 q6 = some (.lst [.str "lacking", .str "gone"])) (fun Q q => ?_) ?_
        · refine ⟨(by show 1 ≤ sizeLine; decide), fun q1 n1 => ⟨(by show 1 ≤ sizeLine; decide), fun q2 n2 => ⟨(by show 1 ≤ sizeLine; decide), fun q3 n3 => ⟨(by show 1 ≤ sizeLine; decide), fun q4 n4 => ⟨(by show 2 ≤ sizeLine; decide), fun q5 n5 => ⟨(by show 2 ≤ sizeLine; decide), fun q6 n6 => ⟨(by show 6 ≤ sizeLine; decide), fun pl np => ?_⟩⟩⟩⟩⟩⟩⟩
          have a1 := Lw.Same.new (o := .lst [.str "present"]) (Same.refl G8) n1
          have b1 : (upd G8 q1 (.lst [.str "present"])) q1 = some (.lst [.str "present"]) := upd_same
          generalize upd G8 q1 (.lst [.str "present"]) = A1 at n2 n3 n4 n5 n6 np a1 b1 ⊢
          have a2 := Lw.Same.new (o := .lst [.str "lacking"]) (Same.refl A1) n2
          have b2 : (upd A1 q2 (.lst [.str "lacking"])) q2 = some (.lst [.str "lacking"]) := upd_same
          generalize upd A1 q2 (.lst [.str "lacking"]) = A2 at n3 n4 n5 n6 np a2 b2 ⊢
          have a3 := Lw.Same.new (o := .lst [.str "gone"]) (Same.refl A2) n3
          have b3 : (upd A2 q3 (.lst [.str "gone"])) q3 = some (.lst [.str "gone"]) := upd_same
          generalize upd A2 q3 (.lst [.str "gone"]) = A3 at n4 n5 n6 np a3 b3 ⊢
          have a4 := Lw.Same.new (o := .lst [.str "shared"]) (Same.refl A3) n4
          have b4 : (upd A3 q4 (.lst [.str "shared"])) q4 = some (.lst [.str "shared"]) := upd_same
          generalize upd A3 q4 (.lst [.str "shared"]) = A4 at n5 n6 np a4 b4 ⊢
          have a5 := Lw.Same.new (o := .lst [.str "present", .str "shared"]) (Same.refl A4) n5
          have b5 : (upd A4 q5 (.lst [.str "present", .str "shared"])) q5 = some (.lst [.str "present", .str "shared"]) := upd_same
          generalize upd A4 q5 (.lst [.str "present", .str "shared"]) = A5 at n6 np a5 b5 ⊢
          have a6 := Lw.Same.new (o := .lst [.str "lacking", .str "gone"]) (Same.refl A5) n6
          have b6 : (upd A5 q6 (.lst [.str "lacking", .str "gone"])) q6 = some (.lst [.str "lacking", .str "gone"]) := upd_same
          generalize upd A5 q6 (.lst [.str "lacking", .str "gone"]) = A6 at np a6 b6 ⊢
          have a7 := Lw.Same.new (o := .lst [.ref q1, .ref q2, .ref q3, .ref q4, .ref q5, .ref q6]) (Same.refl A6) np
          have c6 := a6.trans a7
          have c5 := a5.trans c6
          have c4 := a4.trans c5
          have c3 := a3.trans c4
          have c2 := a2.trans c3
          exact q _ _ ⟨pl, q1, q2, q3, q4, q5, q6, rfl, a1.trans c2, upd_same, c2 _ _ b1, c3 _ _ b2, c4 _ _ b3, c5 _ _ b4, c6 _ _ b5, a7 _ _ b6⟩
        rintro _ G9 ⟨pl, q1, q2, q3, q4, q5, q6, rfl, s9, gpl, gq1, gq2, gq3, gq4, gq5, gq6⟩
        refine sq_set (fun u G10 => ∃ tl, u = .ref tl ∧ Same G9 G10 ∧ G10 tl = some (.lst ((turnsOf way).map V.str))) (fun Q q => ?_) ?_
        · refine ⟨_, rfl, rfl, _, rfl, way_if (fun e => ⟨(by show 0 ≤ sizeLine; decide), fun tl ntl => q _ _ ⟨tl, rfl, Lw.Same.new (Same.refl G9) ntl, by subst e; exact upd_same⟩⟩) (fun ne => ?_)⟩
          refine ⟨_, rfl, rfl, fun hl Ga sa nhl ghl => ⟨(by show 1 ≤ sizeLine; decide), fun nl nnl => ?_⟩⟩
          have sb := Lw.Same.new (o := .lst [.ref hl]) (Same.refl Ga) nnl
          have gnl : (upd Ga nl (.lst [.ref hl])) nl = some (.lst [.ref hl]) := upd_same
          generalize upd Ga nl (.lst [.ref hl]) = Gb at sb gnl ⊢
          refine ⟨pl, nl, _, _, rfl, rfl, sb _ _ (sa _ _ gpl), gnl, (by show 7 ≤ sizeLine; decide), fun cl ncl => ?_⟩
          have sc := Lw.Same.new (o := .lst ([.ref q1, .ref q2, .ref q3, .ref q4, .ref q5, .ref q6] ++ [.ref hl])) (Same.refl Gb) ncl
          have gcl : (upd Gb cl (.lst ([.ref q1, .ref q2, .ref q3, .ref q4, .ref q5, .ref q6] ++ [.ref hl]))) cl = some (.lst ([.ref q1, .ref q2, .ref q3, .ref q4, .ref q5, .ref q6] ++ [.ref hl])) := upd_same
          generalize upd Gb cl (.lst ([.ref q1, .ref q2, .ref q3, .ref q4, .ref q5, .ref q6] ++ [.ref hl])) = Gc at sc gcl ⊢
          have sA := sa.trans (sb.trans sc)
          have pick : ∃ t, atI ([.ref q1, .ref q2, .ref q3, .ref q4, .ref q5, .ref q6] ++ [.ref hl] : List V) (way - 1) = some (.ref t) ∧ Gc t = some (.lst ((turnsOf way).map V.str)) := by
            rcases ways w0 w8 with rfl | rfl | rfl | rfl | rfl | rfl | rfl | rfl
            · exact absurd rfl ne
            · exact ⟨q1, rfl, sA _ _ gq1⟩
            · exact ⟨q2, rfl, sA _ _ gq2⟩
            · exact ⟨q3, rfl, sA _ _ gq3⟩
            · exact ⟨q4, rfl, sA _ _ gq4⟩
            · exact ⟨q5, rfl, sA _ _ gq5⟩
            · exact ⟨q6, rfl, sA _ _ gq6⟩
            · exact ⟨hl, rfl, sc _ _ (sb _ _ ghl)⟩
          obtain ⟨t, et, gt⟩ := pick
          exact ⟨_, rfl, _, _, rfl, rfl, cl, _, _, .ref t, rfl, rfl, SqL.of gcl, et, q _ _ ⟨t, rfl, sA, gt⟩⟩
        rintro _ G10 ⟨tl, rfl, s10, gtl⟩
        have s810 := s9.trans s10
        have k10 : ∀ b o, b ≠ a → b ≠ g → G6 b = some o → G10 b = some o := fun b o nb ng2 e => s810 _ _ (k8 b o nb ng2 e)
        have L10 : G10 L = some (.lst (ds.map V.ref)) := k10 _ _ La (og gLG) (k6 _ _ La gLG)
        have M10 : G10 M = some (.lst (ms.map V.ref)) := k10 _ _ Ma (og gMG) (k6 _ _ Ma gMG)
        have p10 : PlanD G10 d0 y0 := k10 _ _ d0a (og p0) (k6 _ _ d0a p0)
        have i10 := k10 _ _ h0a (og i0) (k6 _ _ h0a i0)
        have g10 : GivD G10 g x := by
          obtain ⟨kv, e1, e2⟩ := hg8
          exact ⟨kv, s810 _ _ e1, e2⟩
        have px10 := px8.same s810
        refine sq_set (fun u G11 => ∃ du, u = .ref du ∧ G10 du = none ∧ Same G10 G11 ∧ G11 du = some (.dK (toldV y0))) (fun Q q => ⟨_, rfl, L, _, _, .ref d0, rfl, rfl, SqL.of L10, (atI_nat (j := 0) (by rw [List.getElem?_map, hd0]; rfl)), d0, _, rfl, .inl p10, fun du ndu => q _ _ ⟨du, rfl, ndu, Lw.Same.new (Same.refl G10) ndu, upd_same⟩⟩) ?_
        rintro _ G11 ⟨du, rfl, ndu, s11, gdu11⟩
        obtain ⟨gkv, gg10, gkv_of⟩ := id g10
        obtain ⟨tnd, tle, tsub⟩ := turns_sub w0 w8
        refine ⟨_, rfl, tl, rfl, ⟨_, SqL.of (s11 _ _ gtl)⟩, ?_⟩
        refine for_list (xs := (turnsOf way).map V.str) (fun i σ G => ∃ (v14 : Option V) (kvs : List (Key × V)), σ = [some (.ref a), some (.ref f), some (.ref L), v3, some (.ref M), v5, v6, v7, v8, some (.int way), some (.ref g), some (.ref pl), some (.ref tl), some (.ref du), v14, none, none, none, none] ∧ Same G10 G ∧ G du = some (.dK kvs) ∧ kvs.length ≤ 4 + i ∧ ∀ h ∈ habNames, valV kvs (Sum.inr h) = some (if h ∈ (turnsOf way).take i then x.of h else y0.of h))
          ⟨_, _, rfl, s11, gdu11, (by show 4 ≤ 4 + 0; decide), fun h hh => by rw [List.take_zero, if_neg (List.not_mem_nil)]; exact told_of y0 hh⟩ (fun i σ G _ ⟨_, _, _, s, _⟩ => SqL.of (s _ _ gtl)) ?_ ?_
        · rintro i v σ G12 hx ⟨v14, kvs, rfl, s12, gdu, lk, hv⟩
          rw [List.getElem?_map] at hx
          obtain ⟨n, hn, rfl⟩ := Option.map_eq_some_iff.mp hx
          have hi : i < 4 := Nat.lt_of_lt_of_le (List.getElem?_eq_some_iff.mp hn).1 tle
          have hm := tsub n (List.mem_of_getElem? hn)
          refine ⟨_, rfl, _, rfl, g, x.of n, rfl, .inl ⟨gkv, Sum.inr n, .inl (s12 _ _ gg10), rfl, (gkv_of n hm).symm⟩, _, rfl, _, rfl, du, _, rfl, DPut.k (k := Sum.inr n) gdu (by omega), _, _, rfl, same_at ndu s12, upd_same, Nat.le_trans (length_putK _ _ _) (by omega), fun h hh => ?_⟩
          rw [valV_put, take_one hn]
          by_cases e : h = n
          · subst e
            rw [if_pos rfl, if_pos (by simp)]
          · rw [if_neg (fun q => e (Sum.inr.inj q)), hv h hh]
            by_cases e2 : h ∈ (turnsOf way).take i
            · rw [if_pos e2, if_pos (List.mem_append_left _ e2)]
            · rw [if_neg e2, if_neg (fun q => (List.mem_append.mp q).elim e2 (fun z => e (List.mem_singleton.mp z)))]
        rintro σ G12 ⟨v14, dk, rfl, s12, gdu, _, hv⟩
        rw [List.length_map, List.take_length] at hv
        have dv : ∀ h ∈ habNames, valV dk (Sum.inr h) = some ((turnH way y0 x).of h) := fun h hh => by
          rw [hv h hh, turns_of w0 w8 y0 x h hh]
        have px12 := px10.same s12
        have pd12 : PlH a G12 (turnH way y0 x) := turn_pl (right_pl r0) px12 way
        dsimp only
        refine sq_set (fun u G13 => ∃ wl, u = .ref wl ∧ Same G12 G13 ∧ G13 wl = some (.lst ((wrongs (turnH way y0 x)).map V.str))) (fun Q q => ?_) ?_
        · refine ⟨rfl, fun hl Ga sa nhl ghl => ⟨hl, rfl, ⟨_, SqL.of ghl⟩, fun D nD => ?_⟩⟩
          refine lc_list (xs := habNames.map V.str) (fun i G => Same Ga G ∧ G D = some (.lst (((habNames.take i).filter fun h => !gd (turnH way y0 x) h).map V.str))) ⟨Lw.Same.new (Same.refl Ga) nD, upd_same⟩ (fun i G _ h => SqL.of (h.1 _ _ ghl)) ?_ ?_
          · rintro j v G hx ⟨sG, gD⟩
            rw [List.getElem?_map] at hx
            obtain ⟨n, hn, rfl⟩ := Option.map_eq_some_iff.mp hx
            have hj4 : j < 4 := (List.getElem?_eq_some_iff.mp hn).1
            have hm := List.mem_of_getElem? hn
            have sG5 := sa.trans sG
            refine ⟨rfl, _, rfl, _, rfl, du, (turnH way y0 x).of n, rfl, .inl ⟨dk, Sum.inr n, .inl (sG5 _ _ gdu), rfl, (dv n hm).symm⟩, _, rfl, n, rfl, hm, fun l G4 s4 nl gl => ?_⟩
            refine notIn_of ((pd12.same (sG5.trans s4)).of n) (.inl (SqL.of gl)) ⟨_, rfl, ?_⟩
            have sA := sG.trans s4
            have lD : (List.take j habNames).length ≤ 4 := by rw [List.length_take]; omega
            cases hg4 : gd (turnH way y0 x) n with
            | true =>
              refine itFb (by show (!gd (turnH way y0 x) n) = false; rw [hg4]; rfl) ⟨sA, ?_⟩
              rw [take_one hn, List.filter_append, List.filter_cons_of_neg (by rw [hg4]; simp)]
              rw [List.filter_nil, List.append_nil]
              exact s4 _ _ gD
            | false =>
              refine itTb (by show (!gd (turnH way y0 x) n) = true; rw [hg4]; rfl) ⟨_, rfl, _, s4 _ _ gD, ?_, same_at nD sA, ?_⟩
              · rw [List.length_map]
                exact Nat.lt_of_le_of_lt (Nat.le_trans (List.length_filter_le _ _) lD) (by omega)
              · rw [upd_same, take_one hn, List.filter_append, List.filter_cons_of_pos (by rw [hg4]; rfl), List.filter_nil, List.map_append]
                rfl
          · rintro G ⟨sG, gD⟩
            exact q _ _ ⟨D, rfl, sa.trans sG, gD⟩
        rintro _ G13 ⟨wl, rfl, s13, gw13⟩
        have s1013 := s12.trans s13
        have kH13 : ∀ b o, b ≠ a → H b = some o → G13 b = some o := fun b o nb e => by
          have e1 := sG _ _ (kH5 _ _ nb e)
          exact s1013 _ _ (k10 _ _ nb (og e1) (k6 _ _ nb e1))
        have hT13 : LamX.Tabs (TL K) G13 := by
          obtain ⟨_, _, _, hsa, _⟩ := hs
          exact Lm.tabs_keep hsa (fun ps z => by cases z) (fun q z => by unfold LamX.CodeO at z; cases z) kH13 hT
        have g13 : GivD G13 g x := ⟨gkv, s1013 _ _ gg10, gkv_of⟩
        have px13 := px10.same s1013
        have L13 := s1013 _ _ L10
        have M13 := s1013 _ _ M10
        have p13 := s1013 _ _ p10
        have i13 := s1013 _ _ i10
        have du13 := s13 _ _ gdu
        have atM0 : atI (ms.map V.ref) 0 = some (.ref h0) := atI_nat (j := 0) (by rw [List.getElem?_map, em0]; rfl)
        have atL0 : atI (ds.map V.ref) 0 = some (.ref d0) := atI_nat (j := 0) (by rw [List.getElem?_map, hd0]; rfl)
        refine sq_set (fun v G14 => LamX.ExtN G13 G14 ∧ LamX.Tabs (TL K) G14 ∧ ((∃ z r t, wrongs (turnH way y0 x) = z :: r ∧ v = .ref t ∧ G14 t = some (.tup [.str z, .bl true, .bl true, .bl false])) ∨ (wrongs (turnH way y0 x) = [] ∧ v = .non))) (fun Q q => ?_) ?_
        · refine ⟨hT13, fun H8 e8 T8 => ?_⟩
          have hg8' : GivD H8 g x := ⟨gkv, e8 _ _ (s1013 _ _ gg10) (fun ps z => by cases z), gkv_of⟩
          refine ⟨_, rfl, M, _, _, .ref h0, rfl, rfl, SqL.of (e8 _ _ M13 (fun ps z => by cases z)), atM0, _, rfl, _, rfl, h0, way, g, a, y0, x, rfl, ⟨dx0, e8 _ _ i13 (fun ps z => by cases z)⟩, r0, hg8', px13.ext e8, fun z r e d8 G8' n8 s8' gd8 => ⟨z, d8, rfl, rfl, gd8, fun t G9' s9' gt => ?_⟩, fun e h8 G8' s8' n8 hab => ?_⟩
          · exact q _ _ ⟨e8.trans (LamX.ExtN.of fun b o hb => s9' _ _ (s8' _ _ hb)), Lm.tabs_same (s8'.trans s9') T8, .inl ⟨z, r, t, e, rfl, gt⟩⟩
          · exact q _ _ ⟨e8.trans (LamX.ExtN.of fun b o hb => s8' _ _ hb), Lm.tabs_same s8' T8, .inr ⟨e, rfl⟩⟩
        rintro v16 G14 ⟨e14, T14, hv16⟩
        have hww : ∀ z ∈ wrongs (turnH way y0 x), IsWord z := fun z hz => hab_word (wrongs_mem z hz)
        have w14 := e14 _ _ gw13 (fun ps z => by cases z)
        have L14 := e14 _ _ L13 (fun ps z => by cases z)
        have M14 := e14 _ _ M13 (fun ps z => by cases z)
        have p14 : PlanD G14 d0 y0 := e14 _ _ p13 (fun ps z => by cases z)
        have i14 := e14 _ _ i13 (fun ps z => by cases z)
        have du14 := e14 _ _ du13 (fun ps z => by cases z)
        have g14 : GivD G14 g x := ⟨gkv, e14 _ _ (s1013 _ _ gg10) (fun ps z => by cases z), gkv_of⟩
        have px14 := px13.ext e14
        have done : ∀ G, Same G14 G → Q (.bl true) G := fun G s => k G (fun b o nb e no => s _ _ (e14 _ _ (kH13 b o nb e) no)) (Lm.tabs_same s T14)
        refine sq_if1 (fun b G15 => Same G14 G15 ∧ b = !(wrongs (turnH way y0 x)).isEmpty) (fun Q q => ?_) ?_ ?_
        · refine ⟨_, rfl, (by show 0 ≤ sizeLine; decide), fun e ne => ?_⟩
          have se := Lw.Same.new (o := .lst []) (Same.refl G14) ne
          refine ⟨.list ((wrongs (turnH way y0 x)).map PyData.str), .list [], .lst (SqL.of (se _ _ w14)) (dp_strs _), .lst (SqL.of upd_same) .nil, shaped_strs _ hww, by decide +kernel, _, rfl, q _ _ ⟨se, ?_⟩⟩
          cases wrongs (turnH way y0 x) with
          | nil => decide +kernel
          | cons z r => rfl
        · rintro G15 ⟨s15, hb15⟩
          rcases hv16 with ⟨z, r, t, ez, rfl, gt14⟩ | ⟨e0, _⟩
          · have w15 := s15 _ _ w14
            rw [ez] at w15
            have w16 : G15 wl = some (.lst (.str z :: r.map V.str)) := w15
            have zw : IsWord z := hww z (by rw [ez]; exact List.mem_cons_self)
            refine ⟨_, rfl, _, rfl, wl, _, 0, .str z, rfl, rfl, SqL.of w16, (atI_nat (j := 0) rfl), (by show 4 ≤ sizeLine; decide), fun t2 nt2 => ?_⟩
            have st := Lw.Same.new (o := .tup [.str z, .bl true, .bl true, .bl false]) (Same.refl G15) nt2
            refine ⟨.tuple [.str z, .bool true, .bool true, .bool false], .tuple [.str z, .bool true, .bool true, .bool false], .tup (SqT.of (st _ _ (s15 _ _ gt14))) (.cons (.str _) (.cons (.bl _) (.cons (.bl _) (.cons (.bl _) .nil)))), .tup (SqT.of upd_same) (.cons (.str _) (.cons (.bl _) (.cons (.bl _) (.cons (.bl _) .nil)))), shaped_told zw _ _ _, shaped_told zw _ _ _, ?_⟩
            rw [eqv_told]
            have sA := s15.trans st
            refine ⟨_, rfl, itTb rfl ?_⟩
            exact ⟨_, rfl, M, _, _, .ref h0, rfl, rfl, SqL.of (sA _ _ M14), atM0, _, rfl, L, _, _, .ref d0, rfl, rfl, SqL.of (sA _ _ L14), atL0, h0, d0, y0, rfl, ⟨dx0, sA _ _ i14⟩, PlanD.giv (sA _ _ p14), r0, fun G s => done G (sA.trans s)⟩
          · rw [e0] at hb15
            cases hb15
        · rintro G15 ⟨s15, hb15⟩
          rcases hv16 with ⟨z, r, t, ez, rfl, gt14⟩ | ⟨e0, rfl⟩
          · rw [ez] at hb15
            cases hb15
          refine sq_if1 (fun b G16 => Same G15 G16 ∧ b = false) (fun Q q => ?_) (fun G9 ⟨_, e⟩ => by cases e) ?_
          · refine ⟨_, rfl, rfl, _, rfl, itFb rfl ?_⟩
            refine ⟨_, rfl, M, _, _, .ref h0, rfl, rfl, SqL.of (s15 _ _ M14), atM0, _, rfl, _, rfl, h0, way, g, a, y0, x, rfl, ⟨dx0, s15 _ _ i14⟩, r0, g14.same s15, px14.same s15, (fun z r e => by rw [e0] at e; cases e), fun _ ht G16 s16 n16 hab => ?_⟩
            exact ⟨_, rfl, ht, du, turnH way y0 x, rfl, hab, ⟨dk, s16 _ _ (s15 _ _ du14), dv⟩, e0, fun G s => ⟨_, rfl, q _ _ ⟨s16.trans s, rfl⟩⟩⟩
          · rintro G16 ⟨s16, _⟩
            have sA := s15.trans s16
            have tr : ∀ b o, b ≠ a → G b = some o → (∀ ps, o ≠ .tbl ps) → G16 b = some o := fun b o nb e no => sA _ _ (e14 _ _ (s1013 _ _ (k10 b o nb (og e) (k6 _ _ nb e))) no)
            have na : ∀ {b : Addr} {o : HO}, G b = some o → (∀ xs, o ≠ .lst xs) → b ≠ a := fun {b o} e n z => by
              obtain ⟨_, _, _, w, _⟩ := SG
              rw [z, w] at e
              exact n _ (Option.some.inj e).symm
            refine ⟨_, rfl, _, rfl, M, L, _, _, rfl, SqL.of (sA _ _ M14), SqL.of (sA _ _ L14), fun D nD => ?_⟩
            refine lc_it (walk_zip (xs := ms.map V.ref) (ys := ds.map V.ref) (n := nk + 1) (by rw [List.length_map, List.length_map, lms, lds, Nat.min_self])) (fun i G => Same G16 G ∧ G D = some (.lst ((List.replicate i true).map V.bl))) ⟨Lw.Same.new (Same.refl G16) nD, upd_same⟩ (fun i G _ h => ⟨SqL.of (h.1 _ _ (sA _ _ M14)), SqL.of (h.1 _ _ (sA _ _ L14))⟩) ?_ ?_
            · rintro i v G17 G18 hi ⟨s17, gD⟩ ⟨T, x1, y1, rfl, nT, rfl, g1, g2⟩
              have f1 : (ms.map V.ref)[i]? = some x1 := g1
              have f2 : (ds.map V.ref)[i]? = some y1 := g2
              rw [List.getElem?_map] at f1 f2
              obtain ⟨hh, eh, rfl⟩ := Option.map_eq_some_iff.mp f1
              obtain ⟨e, he, rfl⟩ := Option.map_eq_some_iff.mp f2
              obtain ⟨yi, h2, dxi, eyi, pi, ri, emi, ii⟩ := at5 sG he
              rw [eh] at emi
              cases emi
              have sT := Lw.Same.new (o := .tup [.ref hh, .ref e]) (Same.refl G17) nT
              have sB := s17.trans sT
              have pi6 : PlanD G16 e yi := tr _ _ (na pi (fun xs z => by cases z)) pi (fun ps z => by cases z)
              have ii6 := tr _ _ (na ii (fun xs z => by cases z)) ii (fun ps z => by cases z)
              refine ⟨T, _, rfl, SqT.of upd_same, rfl, _, _, rfl, _, _, rfl, rfl, rfl, _, rfl, _, rfl, hh, e, yi, rfl, ⟨dxi, sB _ _ ii6⟩, PlanD.giv (sB _ _ pi6), ri, fun G19 s19 => ?_⟩
              refine ⟨_, s19 _ _ (sT _ _ gD), ?_, same_at nD (sB.trans s19), ?_⟩
              · rw [List.length_map, List.length_replicate]
                omega
              · rw [upd_same, List.replicate_succ', List.map_append]
                rfl
            · rintro G17 ⟨s17, gD⟩
              refine ⟨D, _, rfl, SqL.of gD, ?_⟩
              rw [List.all_eq_true.mpr (fun x hx => by rw [List.eq_of_mem_replicate hx]; rfl)]
              exact done _ (sA.trans s17)
end
end Lw

set_option Elab.async false
set_option linter.all false
set_option maxRecDepth 100000
set_option maxHeartbeats 40000000
namespace Lw
open PySem PySem.Spec PyProof.Rows L2
abbrev sLaw : Stmt := top 20
section
variable {P : Program} {w : World} {K : PySem.W.Frag} {mg : Str → Option Value} {base : Heap}
/-! the law -/
abbrev nLaw : List Str := ["script", "at"]
def spLaw (K : PySem.W.Frag) : Sp := fun vs H Q _ => ∃ (a : Addr) (ns : List Int), vs = [.ref a] ∧ SqL K H a (ns.map V.int) ∧ ns.length ≤ 63 ∧ H (He.cT K oneP).2 = some (.tbl #[]) ∧ ∀ H', Q (.bl true) H'
theorem scLaw : FnScope nLaw ["script"] (defScope sLaw) := ⟨rfl, rfl, rfl, by decide +kernel, rfl, by decide +kernel, by decide +kernel⟩
theorem ok_law {f : Addr} {fd : FuncData} (F : FnP K "law" sLaw f fd) (cS : Cal P w K mg base CX0 "_law_source" 1 ["script", "at"] (spSource K)) (cO : Cal P w K mg base CX0 "_law_one" 10 ["source"] (spOne K)) (ha : mg "all" = none) (hx : mg "max" = none) (hn : mg "min" = none) (hl : mg "len" = none) (hg : mg "range" = none) : FnOk P w K mg base CX0 11 f fd ["script"] (spLaw K) := by
  refine F.ok scLaw (fun vs H Q E h => ?_) (fun cdv A outer s0 H vs Q E hr h => ?_)
  · obtain ⟨a, ns, rfl, _⟩ := h
    rfl
  · obtain ⟨a, ns, rfl, hS, hlen, hT0, k⟩ := h
    have nd := scLaw.nd
    have h1 : Room 1 _ := hr.mono (by decide)
    have h9 : sizeLine = 16777216 := by decide
    refine ⟨_, PSs.nox (pss_one (ps_ret (pe_callB (cr_all rfl) (by rfl) ha (by decide +kernel) (pa_cons (pe_lc (own := [("at", 1)]) (g := (gName 1)) (tt := tYes) rfl nd
      (pi_range1 rfl hg (pa_cons (pe_callB (call_max2 rfl) (by rfl) hx (by decide +kernel) (pa_cons pe_int (pa_cons (pe_callB (call_min2 rfl) (by rfl) hn (by decide +kernel) (pa_cons pe_int (pa_cons (pe_callB call_len_seq (by rfl) hl PySem.boot_len (pa_cons (pv 0) pa_nil)) pa_nil))) pa_nil))) pa_nil))
      (blkOk_by (N := nLaw) (sc := defScope sLaw) (by decide +kernel)) (fun _ _ _ _ _ => pg_name (i := 1) nd rfl (Or.inl rfl)) (fun _ _ _ _ _ => pts_nil) (fun _ _ _ _ _ => pe_cal cO hr (pa_cons (pe_cal cS h1 (pa_cons (pv 0) (pa_cons (pv 1) pa_nil))) pa_nil))) pa_nil)))), ?_⟩
    have hb : ∀ L : Int, 0 ≤ L → 1 ≤ (if (if L < 8 then L else 8) > 1 then (if L < 8 then L else 8) else 1) ∧ (if (if L < 8 then L else 8) > 1 then (if L < 8 then L else 8) else 1) ≤ 8 := fun L h => by split <;> split <;> omega
    have hb2 := hb (((ns.map V.int).length : Nat) : Int) (by omega)
    refine ⟨_, rfl, a, _, rfl, .inl hS, _, _, rfl, _, _, rfl, _, rfl, by omega, by omega, fun D nD => ?_⟩
    have mvS : ∀ {G G' : Hp}, (∀ b o, b ≠ D → G b = some o → (∀ ps, o ≠ .tbl ps) → G' b = some o) → SqL K G a (ns.map V.int) → SqL K G' a (ns.map V.int) := fun {G G'} kk hg => by
      rcases hS with hR | hC
      · have ne : a ≠ D := by rcases hR with h | ⟨o, h⟩ <;> exact ne_of_none h nD
        rcases hg with (h | ⟨o, h⟩) | h
        · exact .inl (.inl (kk _ _ ne h (fun ps z => by cases z)))
        · exact .inl (.inr ⟨o, kk _ _ ne h (fun ps z => by cases z)⟩)
        · exact .inr h
      · exact .inr hC
    have sD := Lw.Same.new (o := .lst []) (Same.refl H) nD
    have T0 : LamX.Tabs (TL K) H := fun q hq => by
      rw [List.mem_singleton.mp hq]
      exact LamX.TabS.nil hT0
    refine lc_range (lo := 0) (fun i G => SqL K G a (ns.map V.int) ∧ LamX.Tabs (TL K) G ∧ G D = some (.lst ((List.replicate i true).map V.bl))) ⟨sD.seq hS, Lm.tabs_same sD T0, upd_same⟩ ?_ ?_
    · rintro i G hi ⟨hSG, hTG, gD⟩
      have hi8 : i < 8 := by omega
      refine ⟨rfl, _, rfl, _, rfl, a, ns, _, rfl, hSG, by omega, by omega, by omega, fun p G1 np s1 hs => ?_⟩
      refine ⟨p, rfl, hs, Lm.tabs_same s1 hTG, fun G2 k2 T2 => ?_⟩
      have ext : ∀ b o, G b = some o → (∀ ps, o ≠ .tbl ps) → G2 b = some o := fun b o e no => k2 _ _ (ne_of_none e np) (s1 _ _ e) no
      have gD2 := ext _ _ gD (fun ps z => by cases z)
      refine ⟨_, gD2, ?_, mvS (fun b o nb e no => by rw [upd_ne nb]; exact ext _ _ e no) hSG, Lm.tabs_keep gD2 (fun ps z => by cases z) (fun q z => by unfold LamX.CodeO at z; cases z) (fun b u nb e => by rw [upd_ne nb]; exact e) T2, ?_⟩
      · rw [List.length_map, List.length_replicate]
        omega
      · rw [upd_same, List.replicate_succ', List.map_append]
        rfl
    · rintro G ⟨_, _, gD⟩
      refine ⟨D, _, rfl, SqL.of gD, ?_⟩
      rw [List.all_eq_true.mpr (fun x hx => by rw [List.eq_of_mem_replicate hx]; rfl)]
      exact k _
end
end Lw

set_option Elab.async false
set_option linter.all false
set_option maxRecDepth 100000
set_option maxHeartbeats 1000000
namespace Hd2
open PySem PySem.Spec PyProof.Rows L2
/-! the keys of a written dict, in their order -/
theorem dic_ky {K : PySem.W.Frag} {w : World} {a : Addr} {ks : List PySem.Str} (h : He.dicW K a = some (He.keysIn w.params ks)) : Kd.KyD K w a ks := by
  obtain ⟨es, n, D⟩ := He.dicW_ok h
  refine ⟨es, n, D, ?_⟩
  unfold He.dicW at h
  rw [D.at_] at h
  simp only [D.low] at h
  have e : es.toList.map He.keyOf = He.keysIn w.params ks := Option.some.inj h
  have ln : es.size = ks.length := by
    have z := congrArg List.length e
    unfold He.keysIn at z
    rw [List.length_map, List.length_map, Array.length_toList] at z
    exact z
  refine ⟨ln, fun i d hd => ?_⟩
  have hi : i < ks.length := by
    rw [← ln]
    exact (Array.getElem?_eq_some_iff.mp hd).1
  have z := congrArg (fun l : List (Option (PySem.Str × Int)) => l[i]?) e
  unfold He.keysIn at z
  simp only [List.getElem?_map, Array.getElem?_toList, hd, List.getElem?_eq_getElem hi, Option.map_some] at z
  have z2 := Option.some.inj z
  refine ⟨ks[i], ?_⟩
  unfold He.keyOf at z2
  split at z2
  · rename_i x t hk
    have e4 : x = ks[i] := congrArg Prod.fst (Option.some.inj z2)
    exact ⟨t, List.getElem?_eq_getElem hi, by rw [hk, e4]⟩
  · cases z2
theorem Says.ky {fa : List He.Fa} {fn : List He5.DefA} {ts : List He.Tab} {own : PySem.W.Frag → Bool} {w : World} {K : PySem.W.Frag} (c : Says fa fn ts own w K) (i : Nat) {t : He.Tab} (h : ts[i]? = some t := by rfl) : Kd.KyD K w (t.1 K) t.2 := by
  have e := congrArg (fun l : Tb => l[i]?) c.2.1
  simp only [tbs, tbv, List.getElem?_map, h] at e
  exact dic_ky (Option.some.inj e)
end Hd2

set_option Elab.async false
set_option linter.all false
set_option maxRecDepth 100000
set_option maxHeartbeats 0
namespace Hx
open PySem PySem.Spec PyProof.Rows L2
/-! an own error class with an own __init__, over any base: what the head looks up -/
def oexB (K : PySem.W.Frag) (C : Addr) (tl : List Value) (nw : String) : Bool := match K.lookup C with
  | some ⟨.type t, _, .cls ⟨_, _, .ref c :: bm, _, _, true, _, _, _, _, false⟩, sl⟩ => (decide (t = "type") && (decide (c = C) && PySem.Ge.tailB tl bm)) && (match sl.toList with
    | [_, _, _, _, some (.builtin z), _] => decide (z = nw)
    | _ => false)
  | _ => false
def clsB (K : PySem.W.Frag) (C : Addr) (tl : List Value) (nw : String) : Bool := oexB K C tl nw && (He.eqO (PySem.W.findIn K (.ref C) "__setattr__") (some (some (.builtin "object.__setattr__"))) && (decide (PySem.W.subIn K (.ref C) (.type "BaseException") = some true) &&
  (decide (PySem.W.typeIn K (.ref C) = some (.type "type")) && PySem.W.keepIn K (.ref C))))
theorem oexB_ok {K : PySem.W.Frag} {C : Addr} {tl : List Value} {nw : String} (T : PySem.Ge.Tl tl) (h : clsB K C tl nw = true) : Ge.OexT K C tl nw := by
  obtain ⟨h1, h⟩ := He.ba h
  obtain ⟨h2, h⟩ := He.ba h
  obtain ⟨h3, h⟩ := He.ba h
  obtain ⟨h4, h5⟩ := He.ba h
  refine ⟨T, ?_, He.eqO_ok h2, of_decide_eq_true h3, of_decide_eq_true h4, h5⟩
  unfold oexB at h1
  split at h1
  · rename_i t dd nm bs c bm N qn sn sub ab col sl e
    obtain ⟨q1, q2⟩ := He.ba h1
    obtain ⟨q3, q4⟩ := He.ba q1
    obtain ⟨q5, q6⟩ := He.ba q4
    have e1 := of_decide_eq_true q3
    have e2 := of_decide_eq_true q5
    subst e1 e2
    split at q2
    · rename_i k0 k1 k2 k3 z k5 es
      have e3 := of_decide_eq_true q2
      subst e3
      obtain ⟨sl⟩ := sl
      simp only at es
      subst es
      exact ⟨nm, qn, N, bs, bm, sn, sub, ab, col, dd, k0, k1, k2, k3, k5, e, q6⟩
    · cases q2
  · cases h1
end Hx

set_option Elab.async false
set_option linter.all false
set_option maxRecDepth 100000
set_option maxHeartbeats 0
namespace Lw
open PySem PySem.Spec PyProof.Rows L2
def fn0 : List He5.DefA := [dG "copied" sCopied, dM "BadHabit" "__init__" "BadHabit.__init__" sBhI, dG "_law_draw" sDraw, dG "_law_source" sSource, dG "_law_pick" sPick, dG "_law_values" sValues, dG "_law_names_of_habits" sNamesH, dM "Habits" "__init__" "Habits.__init__" sHabI [("present", .str "stop"), ("lacking", .str "stop"), ("gone", .str "stop"), ("shared", .str "one")], dM "Habits" "named" "Habits.named" sNamed, dM "Habits" "__eq__" "Habits.__eq__" sHabE, dM "Habits" "turned" "Habits.turned" sTurnH, dG "_law_made" sMade]
def fn1 : List He5.DefA := [dG "_law_turned" sTurned34, dG "_law_plain" sPlain, dG "_law_is" sIs34, dG "_law_caught" sCaught, dG "_law_one" sOne, dG "law" sLaw]
def fn : List He5.DefA := fn0 ++ (fn1)
def glos0 : List Str := ["Habits", "VALUES", "BadHabit", "CopiesError", "copied", "_law_draw", "_law_source", "_law_pick", "_law_values", "_law_names_of_habits", "_law_made", "_law_turned"]
def glos1 : List Str := ["_law_plain", "_law_is", "_law_caught", "_law_one", "law"]
def glos : List Str := glos0 ++ (glos1)
def frees0 : List Str := ["len", "abs", "int", "range", "sum", "isinstance", "list", "tuple", "dict", "max", "min", "enumerate"]
def frees1 : List Str := ["zip", "all", "ValueError", "LookupError"]
def frees : List Str := frees0 ++ (frees1)
def fas0 : List He.Fa := [.cls "Habits", .mkr "Habits", .noat "Habits" "present", .noat "Habits" "lacking", .noat "Habits" "gone", .noat "Habits" "shared", .meth "Habits" "named", .meth "Habits" "__eq__", .meth "Habits" "turned", .exm "BadHabit" "BadHabit" true, .meth "BadHabit" "__init__"]
def fas : List He.Fa := fas0
def fa : List He.Fa := glos.map He.Fa.glo ++ (frees.map He.Fa.free ++ fas)
def tabs : List He.Tab := [(fun K => He.ga K "VALUES", habNames)]
def hvB (K : PySem.W.Frag) (q : Str × List Str) : Bool := match PySem.W.nsIn K (He.ga K "VALUES") q.1 with
  | some (some (.ref t)) => tupB K t (q.2.map V.str)
  | _ => false
def badB (K : PySem.W.Frag) (C : Addr) : Bool := He.eqO (PySem.W.findIn K (.ref C) "habit") (some none) && (decide (PySem.W.kitOne K (.ref C) (.ref (He.ga K "CopiesError")) = some true) && (decide (PySem.W.kitOne K (.ref C) (.type "ValueError") = some true) && decide (PySem.W.kitOne K (.ref C) (.type "LookupError") = some false)))
def kitsH (K : PySem.W.Frag) : Bool := (["NoneType", "str", "dict", "list"] : List String).all fun t => decide (PySem.W.kitOne K (.type t) (.ref (He.ga K "Habits")) = some false) && PySem.W.notFirst K (He.ga K "Habits") (.type t)
def tf : List He.Defn := [("_law_one", none)]
def own (K : PySem.W.Frag) : Bool := habVals.all (hvB K) && (Hx.clsB K (He.ga K "BadHabit") Ge.vlTail "ValueError.__new__" && (badB K (He.ga K "BadHabit") && (Hk.insB K (He.ga K "Habits") && (He.eqO (PySem.W.findIn K (.ref (He.ga K "Habits")) "__ne__") (some (some (.builtin "object.__ne__"))) && (PySem.W.notFirst K (He.ga K "Habits") (.ref (He.ga K "Habits")) && (kitsH K && (Hk.excB K (He.ga K "BadHabit"))))))))
abbrev R : PySem.W.OpenRow := PySem.W.OpenLaw.row PySem.Challenge.rw_filteredcopies_k34_habits_turned
abbrev qv : Program := PySem.W.view R.prog [20]
def names0 : List Str := ["copied", "CopiesError", "BadHabit", "VALUES", "Habits", "_law_source", "_law_draw", "_law_pick", "_law_values", "_law_names_of_habits", "_law_caught", "_law_plain", "_law_made", "_law_turned"]
def names1 : List Str := ["_law_is", "_law_one"]
def names : List Str := names0 ++ (names1)
abbrev hk : PySem.W.Hook := Hd4.hook 6 fa fn tabs tf own
def ob (s : PySem.W.SharedT) : Hd4.Al := Hd4.obG 6 fa fn tabs tf own (HandSHeadRun.getT s)
theorem ob_eq (s : PySem.W.SharedT) : ob s = hk.obs s.abs := Hd4.obG_eq (HandSHeadRun.getT_eq s)
theorem run1 (w : World) : HandSHeadRun.RunEq R qv hk ob 9000 names (w.withFollow "special-get-raises" false) := by intro os; kernel_rfl
theorem run2 (w : World) : HandSHeadRun.RunEq R qv hk ob 9000 names (w.withFollow "special-get-raises" true) := by intro os; kernel_rfl
theorem run (w : World) : HandSHeadRun.RunEq R qv hk ob 9000 names w :=
  PySem.W.byRow2 "special-get-raises" (P := fun w => HandSHeadRun.RunEq R qv hk ob 9000 names w) run1 run2 w
end Lw

set_option Elab.async false
set_option linter.all false
set_option maxRecDepth 100000
set_option maxHeartbeats 4000000
namespace Lw
open PySem PySem.Spec PyProof.Rows L2 Lg
section
variable {K : PySem.W.Frag} {h : Heap} {mg : Str → Option Value} {w : World}
theorem f_glo (X : K.In h) (G : h.Ns mainGlobals mg) (c : Hd2.Says fa fn tabs own w K) {x : Str} (hx : x ∈ glos) : mg x = some (.ref (He.ga K x)) :=
  He.glo_ok X G (c.fact (f := .glo x) (List.mem_append_left _ (List.mem_map_of_mem hx)))
theorem f_free (X : K.In h) (G : h.Ns mainGlobals mg) (c : Hd2.Says fa fn tabs own w K) {x : Str} (hx : x ∈ frees) : mg x = none :=
  He.free_ok X G (c.fact (f := .free x) (List.mem_append_right _ (List.mem_append_left _ (List.mem_map_of_mem hx))))
theorem f_one (c : Hd2.Says fa fn tabs own w K) {f : He.Fa} (hf : f ∈ fas) : f.ok K = true := c.fact (List.mem_append_right _ (List.mem_append_right _ hf))
theorem f_hv {dV : Addr} (D : ∃ es n, KDict K w dV es n) (hd : dV = He.ga K "VALUES") (h : habVals.all (hvB K) = true) : ∀ q ∈ habVals, ∃ a, KDct K w dV q.1 (.ref a) ∧ ∀ H, SqT K H a (q.2.map V.str) := fun q hq => by
  have z := List.all_eq_true.mp h q hq
  subst hd
  unfold hvB at z
  split at z
  · rename_i t e
    obtain ⟨es, n, D⟩ := D
    exact ⟨t, ⟨es, n, _, D.at_, D.lit, e, rfl⟩, fun H => tupB_ok z⟩
  · cases z
end
theorem facts {P : Program} {w : World} {K : PySem.W.Frag} {h : Heap} {mg : Str → Option Value} {f : Addr} (X : K.In h) (G : h.Ns mainGlobals mg) (hfa : mg ("law" : Str) = some (.ref f)) (c : Hd2.Says fa fn tabs own w K) :
    ∃ fd : FuncData, (∀ (s : Shared) (v : Value), BindsTo s fd ⟨[v], []⟩ [("script", v)]) ∧ ∀ base : Heap, K.In base → base.Ns mainGlobals mg → LamX.TabB base mg (He.cT K oneP).1 (He.cT K oneP).2 → FnOk P w K mg base CX0 11 f fd ["script"] (spLaw K) := by
  have gl : ∀ {x : Str}, x ∈ glos → mg x = some (.ref (He.ga K x)) := fun hx => f_glo X G c hx
  have fr : ∀ {x : Str}, x ∈ frees → mg x = none := fun hx => f_free X G c hx
  have fc : ∀ {f : He.Fa}, f ∈ fas → f.ok K = true := fun hf => f_one c hf
  have oo := c.2.2
  obtain ⟨oV, oo⟩ := He.ba oo
  obtain ⟨oR1, oo⟩ := He.ba oo
  obtain ⟨oR2, oo⟩ := He.ba oo
  obtain ⟨oH1, oo⟩ := He.ba oo
  obtain ⟨oH2, oo⟩ := He.ba oo
  obtain ⟨oH3, oo⟩ := He.ba oo
  obtain ⟨oH4, oo⟩ := He.ba oo
  have oR3 := oo
  obtain ⟨d0, D0⟩ := c.1.def_ 0 (d := dG "copied" sCopied) rfl
  obtain ⟨d1, D1⟩ := c.1.def_ 1 (d := dM "BadHabit" "__init__" "BadHabit.__init__" sBhI) rfl
  obtain ⟨d2, D2⟩ := c.1.def_ 2 (d := dG "_law_draw" sDraw) rfl
  obtain ⟨d3, D3⟩ := c.1.def_ 3 (d := dG "_law_source" sSource) rfl
  obtain ⟨d4, D4⟩ := c.1.def_ 4 (d := dG "_law_pick" sPick) rfl
  obtain ⟨d5, D5⟩ := c.1.def_ 5 (d := dG "_law_values" sValues) rfl
  obtain ⟨d6, D6⟩ := c.1.def_ 6 (d := dG "_law_names_of_habits" sNamesH) rfl
  obtain ⟨d7, D7⟩ := c.1.def_ 7 (d := dM "Habits" "__init__" "Habits.__init__" sHabI [("present", .str "stop"), ("lacking", .str "stop"), ("gone", .str "stop"), ("shared", .str "one")]) rfl
  obtain ⟨d8, D8⟩ := c.1.def_ 8 (d := dM "Habits" "named" "Habits.named" sNamed) rfl
  obtain ⟨d9, D9⟩ := c.1.def_ 9 (d := dM "Habits" "__eq__" "Habits.__eq__" sHabE) rfl
  obtain ⟨d10, D10⟩ := c.1.def_ 10 (d := dM "Habits" "turned" "Habits.turned" sTurnH) rfl
  obtain ⟨d11, D11⟩ := c.1.def_ 11 (d := dG "_law_made" sMade) rfl
  obtain ⟨d12, D12⟩ := c.1.def_ 12 (d := dG "_law_turned" sTurned34) rfl
  obtain ⟨d13, D13⟩ := c.1.def_ 13 (d := dG "_law_plain" sPlain) rfl
  obtain ⟨d14, D14⟩ := c.1.def_ 14 (d := dG "_law_is" sIs34) rfl
  obtain ⟨d15, D15⟩ := c.1.def_ 15 (d := dG "_law_caught" sCaught) rfl
  obtain ⟨d16, D16⟩ := c.1.def_ 16 (d := dG "_law_one" sOne) rfl
  obtain ⟨d17, D17⟩ := c.1.def_ 17 (d := dG "law" sLaw) rfl
  have e := hfa.symm.trans (gl (x := "law") (by decide +kernel))
  cases e
  refine ⟨d17, fun s v => FunD.bindsA (ps := ["script"]) D17 (fun _ _ _ _ _ _ us hl => match us, hl with | [_], _ => rfl) s [v] rfl, fun base KB GB TB => ?_⟩
  have TD : TxtD mg := ⟨fr (by decide +kernel), fr (by decide +kernel), fr (by decide +kernel), fr (by decide +kernel)⟩
  have TH : TxtHb K (He.ga K "Habits") := ⟨He.cls_ok (fc (f := .cls "Habits") (List.mem_of_getElem? (i := 0) rfl)), He.noat_ok (fc (f := .noat "Habits" "present") (List.mem_of_getElem? (i := 2) rfl)), He.noat_ok (fc (f := .noat "Habits" "lacking") (List.mem_of_getElem? (i := 3) rfl)), He.noat_ok (fc (f := .noat "Habits" "gone") (List.mem_of_getElem? (i := 4) rfl)), He.noat_ok (fc (f := .noat "Habits" "shared") (List.mem_of_getElem? (i := 5) rfl))⟩
  have HV : HabV K w mg (He.ga K "VALUES") := ⟨gl (by decide +kernel), c.ky 0 (t := (fun K => He.ga K "VALUES", habNames)) rfl, f_hv (c.tab 0 (t := (fun K => He.ga K "VALUES", habNames)) rfl) rfl oV⟩
  have cC1 : Cal P w K mg base CX0 "copied" 1 ["value"] (spCopF K) := ⟨_, _, gl (by decide +kernel), D0.kp, ok_copF D0 ⟨fr (by decide +kernel), fr (by decide +kernel), fr (by decide +kernel), fr (by decide +kernel)⟩, D0.bindsN fun _ _ _ _ _ _ us hl => match us, hl with | [_], _ => rfl⟩
  obtain ⟨r1, r⟩ := He.ba oR2
  obtain ⟨r2, r⟩ := He.ba r
  obtain ⟨r3, r4⟩ := He.ba r
  obtain ⟨excR, xfR⟩ := Hk.excB_ok oR3
  have MR := He.meth_ok (fc (f := .meth "BadHabit" "__init__") (List.mem_of_getElem? (i := 10) rfl))
  have TR : TxtBh K mg (He.ga K "BadHabit") "ValueError.__new__" := ⟨Hx.oexB_ok Ge.tl_vl oR1, He.eqO_ok r1, gl (by decide +kernel)⟩
  have BH : BhT P w K mg base (He.ga K "BadHabit") := ⟨_, _, _, TR, PySem.F.excBase_ValueError, MR.at_, beq_iff_eq.mp MR.fn, ok_bhI D1 TR cC1, D1.bindsN fun _ _ _ _ _ _ us hl => match us, hl with | [_, _], _ => rfl⟩
  have cD := cal_draw (P := P) (w := w) (base := base) TD ⟨_, _, gl (by decide +kernel), D2⟩
  have cS : Cal P w K mg base CX0 "_law_source" 1 ["script", "at"] (spSource K) := ⟨_, _, gl (by decide +kernel), D3.kp, ok_source D3 TD, D3.bindsN fun _ _ _ _ _ _ us hl => match us, hl with | [_, _], _ => rfl⟩
  have cPk : Cal P w K mg base CX0 "_law_pick" 2 ["source", "some"] (spOf K) := ⟨_, _, gl (by decide +kernel), D4.kp, ok_pick D4 TD cD, D4.bindsN fun _ _ _ _ _ _ us hl => match us, hl with | [_, _], _ => rfl⟩
  have cVa : Cal P w K mg base CX0 "_law_values" 1 ["habit"] (spValues) := ⟨_, _, gl (by decide +kernel), D5.kp, ok_values D5, D5.bindsN fun _ _ _ _ _ _ us hl => match us, hl with | [_], _ => rfl⟩
  have cNm : Cal P w K mg base CX0 "_law_names_of_habits" 1 [] (spNamesH) := ⟨_, _, gl (by decide +kernel), D6.kp, ok_namesH D6, D6.bindsN fun _ _ _ _ _ _ us hl => match us, hl with | [], _ => rfl⟩
  have FHa := ok_habV (P := P) (w := w) (base := base) D7 TH BH HV
  obtain ⟨i1, i⟩ := He.ba oH1
  obtain ⟨i2, i⟩ := He.ba i
  obtain ⟨i3, i4⟩ := He.ba i
  have HC : TxtHc K (He.ga K "Habits") := ⟨TH.cl, He.eqO_ok i1, of_decide_eq_true i3, of_decide_eq_true i4, of_decide_eq_true i2⟩
  have kt : ∀ t ∈ (["NoneType", "str", "dict", "list"] : List String), PySem.W.kitOne K (.type t) (.ref (He.ga K "Habits")) = some false ∧ PySem.W.notFirst K (He.ga K "Habits") (.type t) = true := fun t ht => ⟨of_decide_eq_true (He.ba (List.all_eq_true.mp oH4 t ht)).1, (He.ba (List.all_eq_true.mp oH4 t ht)).2⟩
  have KH : KitH K (He.ga K "Habits") := ⟨(kt "NoneType" (by simp)).1, (kt "str" (by simp)).1, (kt "dict" (by simp)).1, (kt "list" (by simp)).1⟩
  have WN := He.meth_ok (fc (f := .meth "Habits" "named") (List.mem_of_getElem? (i := 6) rfl))
  have WE := He.meth_ok (fc (f := .meth "Habits" "__eq__") (List.mem_of_getElem? (i := 7) rfl))
  have WT := He.meth_ok (fc (f := .meth "Habits" "turned") (List.mem_of_getElem? (i := 8) rfl))
  have FN := ok_named (P := P) (w := w) (mg := mg) (base := base) D8 TH
  have bN : Binds K d8 ["self"] [] := D8.bindsN fun _ _ _ _ _ _ us hl => match us, hl with | [_], _ => rfl
  have GH : mg "Habits" = some (.ref (He.ga K "Habits")) := gl (by decide +kernel)
  have MkH := He.mkr_ok (fc (f := .mkr "Habits") (List.mem_of_getElem? (i := 1) rfl))
  have FT := fun (ks : List Str) (kb : KwB ks) (nk : ks.Nodup) (fw : ks.length ≤ 100) => ok_turnH (P := P) (w := w) (base := base) D10 kb nk fw TH.cl WN FN bN MkH D7 FHa GH
  have cMd : Cal P w K mg base CX0 "_law_made" 6 ["given"] (spMadeR (He.ga K "Habits")) := ⟨_, _, gl (by decide +kernel), D11.kp, ok_madeR D11 MkH D7 FHa GH, D11.bindsN fun _ _ _ _ _ _ us hl => match us, hl with | [_], _ => rfl⟩
  have cTu : Cal P w K mg base (L2.CX P w) "_law_turned" 7 ["habits", "way", "given"] (spTurned34 (He.ga K "Habits") (He.ga K "BadHabit")) := ⟨_, _, gl (by decide +kernel), D12.kp, ok_turned34 D12 TH.cl WT FT cNm, D12.bindsN fun _ _ _ _ _ _ us hl => match us, hl with | [_, _, _], _ => rfl⟩
  have cPn : Cal P w K mg base CX0 "_law_plain" 3 ["source", "near"] (spPlain K) := ⟨_, _, gl (by decide +kernel), D13.kp, ok_plain D13 cD cPk cVa cNm, D13.bindsN fun _ _ _ _ _ _ us hl => match us, hl with | [_, _], _ => rfl⟩
  have cIs : Cal P w K mg base CX0 "_law_is" 2 ["habits", "due"] (spIs (He.ga K "Habits")) := ⟨_, _, gl (by decide +kernel), D14.kp, ok_is D14 TH cNm, D14.bindsN fun _ _ _ _ _ _ us hl => match us, hl with | [_, _], _ => rfl⟩
  have CA : TxtCa K mg (He.ga K "BadHabit") (He.ga K "CopiesError") := ⟨fr (by decide +kernel), fr (by decide +kernel), fr (by decide +kernel), gl (by decide +kernel), gl (by decide +kernel), excR, xfR, He.eqO_ok r1, He.exm_ok (fc (f := .exm "BadHabit" "BadHabit" true) (List.mem_of_getElem? (i := 9) rfl)), of_decide_eq_true r2, of_decide_eq_true r3, of_decide_eq_true r4⟩
  have nfH : ∀ t ∈ ([.ref (He.ga K "Habits"), .type "NoneType", .type "str", .type "dict", .type "list"] : List Value), PySem.W.notFirst K (He.ga K "Habits") t = true := fun t ht => by
    simp only [List.mem_cons, List.not_mem_nil, or_false] at ht
    rcases ht with rfl | rfl | rfl | rfl | rfl
    · exact oH3
    · exact (kt "NoneType" (by simp)).2
    · exact (kt "str" (by simp)).2
    · exact (kt "dict" (by simp)).2
    · exact (kt "list" (by simp)).2
  have cO : Cal P w K mg base CX0 "_law_one" 10 ["source"] (spOne K) := ⟨_, _, gl (by decide +kernel), D16.kp, ok_one D16 ⟨cD, cPk, cVa, cNm, cPn, cMd, cIs, cTu, ⟨_, _, gl (by decide +kernel), D15⟩, ⟨_, _, ⟨WE.at_, He.eqO_ok oH2, WE.fn, HC.hm⟩, ok_habE D9 HC KH GH (fr (by decide +kernel)) WN FN bN, D9.bindsN fun _ _ _ _ _ _ us hl => match us, hl with | [_, _], _ => rfl⟩, nfH, CA, fr (by decide +kernel), fr (by decide +kernel), fr (by decide +kernel), fr (by decide +kernel), fr (by decide +kernel), fr (by decide +kernel), fr (by decide +kernel)⟩ TB, D16.bindsN fun _ _ _ _ _ _ us hl => match us, hl with | [_], _ => rfl⟩
  exact ok_law D17 cS cO (fr (by decide +kernel)) (fr (by decide +kernel)) (fr (by decide +kernel)) (fr (by decide +kernel)) (fr (by decide +kernel))
end Lw

open PySem PySem.W PyProof.Rows in
theorem PySem.Challenge.cw_filteredcopies_k34_habits_turned_holds : PySem.Challenge.rw_filteredcopies_k34_habits_turned.Holds := by
  w_on; o_law
  refine HandSHeadRun.head_any (r := Lw.R) (q := Lw.qv) (H := Lw.hk) (ob := Lw.ob) (M := 9000) (loose := Lw.names) (d := HandSHeadRun.topDef Lw.R.prog 20) (kwd := []) Lw.ob_eq
    (by kernel_rfl) (fun s => by kernel_rfl) Lw.run (by kernel_rfl) (by kernel_rfl) (by kernel_rfl) (by rfl) (by first | assumption | decide +kernel) (by decide +kernel) ⟨rfl, rfl, rfl, rfl, rfl, by decide +kernel⟩ ?hw ?hc
  case hw => w_witness2
  case hc =>
    refine LamX.walk_ofTsE (l := PySem.Challenge.rw_filteredcopies_k34_habits_turned) (n := 63) (k := 11) (x := "script") (CX := fun _ => L2.CX0) rfl (by decide) (by kernel_rfl) ⟨rfl, by decide, by decide⟩ ?F (fun _ _ _ _ _ z => z)
    intro w mg fa h Y G hmg0
    obtain ⟨K, KX, c⟩ := Y
    have hmg : mg ("law" : PySem.Str) = some (.ref fa) := by
      have e : (HandSHeadRun.topDef Lw.R.prog 20).name = ("law" : PySem.Str) := by kernel_rfl
      rw [← e]
      exact hmg0
    obtain ⟨fd, hb, hF⟩ := Lw.facts (P := (PySem.Challenge.rw_filteredcopies_k34_habits_turned).prog) (w := w) KX G hmg c.t
    have one : ∀ {p : PySem.Addr × PySem.Addr}, p ∈ [He.cT K Lw.oneP] → p = He.cT K Lw.oneP := fun hp => List.mem_singleton.mp hp
    have inT : Lw.oneP ∈ Lw.tf := List.mem_singleton.mpr rfl
    refine ⟨K, KX, fd, [He.cT K Lw.oneP], Lw.spLaw K, fun p hp => ?_, fun p hp => ?_, fun p hp => ?_, hb, fun H a ns hl _ hT hS => ⟨a, ns, rfl, hS, hl, hT _ (List.mem_singleton.mpr rfl), fun _ => rfl⟩, fun base KB GB hTB => hF base KB GB (hTB _ (List.mem_singleton.mpr rfl))⟩
    · rw [one hp]
      exact c.empty _ inT
    · rw [one hp]
      exact c.out _ inT
    · rw [one hp]
      exact PySem.W.codeHd_of_K KX (c.hd _ inT)
