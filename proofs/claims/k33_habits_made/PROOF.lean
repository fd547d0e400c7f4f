import PyProof.Rows.All
import Wide.All
import OpenK.AllK
import Wide.FinOn
import HandS.Base
import HandS.Call
import HandS.List
import HandS.Comp
import HandS.Dict
import HandS.Iter
import HandS.Text
import HandS.Ends
import HandS.Words
import HandS.WordsList
import HandS.Exc
import HandS.ExcOwn
import HandS.TryOnly
import HandS.ExcInit
import HandS.More
import HandS.Defaults
import HandS.Walk
import KE.KExcIs
import HandS.IsInst
import HandS.ExcIs
import HandS.ExcField
import HandS.Style
import HandS.WordsExc
import HandS.Head0
import HandS.Head1
import HandS.Head2
import HandS.HeadEnd
import HandS.HeadHook1
import HandS.HeadHook2
import HandS.HeadHook3
import HandS.ExcCtx
import HandS.HotCalls
import HandS.ClsMeth
import HandS.Star
import HandS.MakeKwOnly
import HandS.Wide
import HandS.ListItems
import HandS.Finally
import KE.KDictList
import PyProof.FactsAll.dict_3
import HandS.HeadNt
import HandS.Property
import KE.KExcInit
import PyProof.Rows.RuleB_bool
import HandS.RaiseMore
import PyProof.ReprRoads
import HandS.Lambda
import HandS.HeadHook4
import HandS.HeadWalk
import HandS.WordsDict
import HandS.Conv
import HandS.NoneIn
import PySem.Challenge.RW_filteredcopies_k33_habits_made
set_option Elab.async false
set_option linter.all false
set_option maxRecDepth 100000
set_option maxHeartbeats 4000000
namespace Lw
open PySem PySem.Spec PyProof.Rows L2
abbrev MethD (K : PySem.W.Frag) (x q : Str) (st : Stmt) (f : Addr) (fd : FuncData) : Prop := FunD K x q (defArgs st) (defBody st) (defScope st) [] [] f fd
/-! heaps: all but what stands at a is kept -/
def Keep (a : Addr) (H H' : Hp) : Prop := ∀ b o, b ≠ a → H b = some o → H' b = some o
theorem Keep.refl {a : Addr} (H : Hp) : Keep a H H := fun _ _ _ h => h
theorem Keep.trans {a : Addr} {H H1 H2 : Hp} (x : Keep a H H1) (y : Keep a H1 H2) : Keep a H H2 := fun b o n h => y b o n (x b o n h)
theorem Keep.of_same {a : Addr} {H H' : Hp} (s : Same H H') : Keep a H H' := fun b o _ h => s b o h
theorem Keep.upd {a : Addr} {H H' : Hp} {o : HO} (k : Keep a H H') : Keep a H (upd H' a o) := fun b u n h => by
  rw [upd_ne n]
  exact k b u n h
theorem Keep.new {a p : Addr} {H H' : Hp} {o : HO} (k : Keep a H H') (hp : H' p = none) : Keep a H (L2.upd H' p o) := fun b u n h => by
  rw [upd_ne (ne_of_none (k b u n h) hp)]
  exact k b u n h
theorem Keep.seq {K : PySem.W.Frag} {a b : Addr} {H H' : Hp} {xs : List V} (k : Keep a H H') (n : b ≠ a) (h : SqL K H b xs) : SqL K H' b xs := by
  rcases h with (h | ⟨o, h⟩) | h
  · exact .inl (.inl (k _ _ n h))
  · exact .inl (.inr ⟨o, k _ _ n h⟩)
  · exact .inr h
theorem Keep.seqT {K : PySem.W.Frag} {a b : Addr} {H H' : Hp} {xs : List V} (k : Keep a H H') (n : b ≠ a) (h : SqT K H b xs) : SqT K H' b xs := by
  rcases h with (h | ⟨o, h⟩) | h
  · exact .inl (.inl (k _ _ n h))
  · exact .inl (.inr ⟨o, k _ _ n h⟩)
  · exact .inr h
/-- the drawing's source: three numbers; n bounds how often was drawn -/
def Src (H : Hp) (a : Addr) (n : Nat) : Prop := ∃ d s t : Int, H a = some (.lst [.int d, .int s, .int t]) ∧ 0 ≤ d ∧ 0 ≤ s ∧ s < 9223372036854775808 ∧ 0 ≤ t ∧ t ≤ (n : Int)
theorem Src.mono {H : Hp} {a : Addr} {n m : Nat} (h : Src H a n) (l : n ≤ m) : Src H a m := by
  obtain ⟨d, s, t, h1, h2, h3, h4, h5, h6⟩ := h
  exact ⟨d, s, t, h1, h2, h3, h4, h5, by omega⟩
theorem Src.new {H : Hp} {a p : Addr} {n : Nat} {o : HO} (h : Src H a n) (hp : H p = none) : Src (upd H p o) a n := by
  obtain ⟨d, s, t, h1, h2⟩ := h
  exact ⟨d, s, t, by rw [upd_ne (ne_of_none h1 hp)]; exact h1, h2⟩
theorem Src.ne {H : Hp} {a p : Addr} {n : Nat} (h : Src H a n) (hp : H p = none) : p ≠ a := by
  obtain ⟨d, s, t, h1, _⟩ := h
  exact (ne_of_none h1 hp).symm
abbrev big : Nat := 1000000000
/-! steps: a statement's reading by what its expression comes to -/
section
variable {te : TE} {c : TT} {u v t1 t2 : TS} {D : Ends} {σ : L2.St} {H : Hp} {i : Nat}
theorem sq_set (P : V → Hp → Prop) (h : ∀ Q : VK, (∀ x H', P x H' → Q x H') → te σ H Q) (k : ∀ x H', P x H' → u D (σ.set i (some x)) H') : tSeq (tAsg te (gName i)) u D σ H := h _ k
theorem s1_set (P : V → Hp → Prop) (h : ∀ Q : VK, (∀ x H', P x H' → Q x H') → te σ H Q) (k : ∀ x H', P x H' → D.nx (σ.set i (some x)) H') : (tAsg te (gName i)) D σ H := h _ k
theorem sq_par {j : Nat} {ta : TA} (P : V → V → Hp → Prop) (h : ∀ Q : List V → Hp → Prop, (∀ x y H', P x y H' → Q [x, y] H') → ta σ H Q) (k : ∀ x y H', P x y H' → u D ((σ.set i (some x)).set j (some y)) H') : tSeq (tPar i j ta) u D σ H := h _ fun x y H' p => ⟨x, y, rfl, k x y H' p⟩
theorem sq_do (P : V → Hp → Prop) (h : ∀ Q : VK, (∀ x H', P x H' → Q x H') → te σ H Q) (k : ∀ x H', P x H' → u D σ H') : tSeq (tDrop te) u D σ H := h _ k
theorem sq_if (P : Bool → Hp → Prop) (h : ∀ Q : Bool → Hp → Prop, (∀ b H', P b H' → Q b H') → c σ H Q) (kt : ∀ H', P true H' → t1 { D with nx := u D } σ H') (kf : ∀ H', P false H' → t2 { D with nx := u D } σ H') : tSeq (tIfS c t1 t2) u D σ H :=
  h _ fun b H' p => by
    cases b with
    | true => rw [if_pos rfl]; exact kt H' p
    | false => rw [if_neg Bool.false_ne_true]; exact kf H' p
theorem sq_if1 (P : Bool → Hp → Prop) (h : ∀ Q : Bool → Hp → Prop, (∀ b H', P b H' → Q b H') → c σ H Q) (kt : ∀ H', P true H' → t1 { D with nx := u D } σ H') (kf : ∀ H', P false H' → u D σ H') : tSeq (tIfS c t1 tNext) u D σ H := sq_if P h kt kf
theorem s1_if (P : Bool → Hp → Prop) (h : ∀ Q : Bool → Hp → Prop, (∀ b H', P b H' → Q b H') → c σ H Q) (kt : ∀ H', P true H' → t1 D σ H') (kf : ∀ H', P false H' → t2 D σ H') : (tIfS c t1 t2) D σ H :=
  h _ fun b H' p => by
    cases b with
    | true => rw [if_pos rfl]; exact kt H' p
    | false => rw [if_neg Bool.false_ne_true]; exact kf H' p
theorem s1_ret (P : V → Hp → Prop) (h : ∀ Q : VK, (∀ x H', P x H' → Q x H') → te σ H Q) (k : ∀ x H', P x H' → D.rt x H') : tRet te D σ H := h _ k
end
/-! promises -/
def spSource (K : PySem.W.Frag) : Sp := fun vs H Q _ => ∃ (a : Addr) (ns : List Int) (i : Int), vs = [.ref a, .int i] ∧ SqL K H a (ns.map V.int) ∧ ns.length ≤ 1000 ∧ 0 ≤ i ∧ i ≤ 1000 ∧
  ∀ p H', H p = none → Same H H' → Src H' p 0 → Q (.ref p) H'
def spDraw : Sp := fun vs H Q _ => ∃ (a : Addr) (n : Nat) (m : Int), vs = [.ref a, .int m] ∧ Src H a n ∧ n ≤ 1000000000 ∧ 0 < m ∧ m ≤ 1000000000 ∧
  ∀ H' i, Keep a H H' → Src H' a (n + 1) → 0 ≤ i → i < m → Q (.int i) H'
def spOf (K : PySem.W.Frag) : Sp := fun vs H Q _ => ∃ (a b : Addr) (n : Nat) (xs : List V), vs = [.ref a, .ref b] ∧ Src H a n ∧ n ≤ 1000000000 ∧ b ≠ a ∧ SqL K H b xs ∧ xs ≠ [] ∧ xs.length ≤ 100000 ∧
  ∀ H' x, Keep a H H' → Src H' a (n + 1) → x ∈ xs → Q x H'
def spNumber : Sp := fun vs H Q _ => ∃ (a : Addr) (n : Nat), vs = [.ref a] ∧ Src H a n ∧ n ≤ 900000000 ∧
  ∀ H' i, Keep a H H' → Src H' a (n + 8) → Q (.int i) H'
structure TxtD (mg : Str → Option Value) : Prop where
  len : mg "len" = none
  abs : mg "abs" = none
  int : mg "int" = none
  range : mg "range" = none
abbrev FnP (K : PySem.W.Frag) (x : Str) (st : Stmt) (f : Addr) (fd : FuncData) : Prop := FunD K x x (defArgs st) (defBody st) (defScope st) [] [] f fd
section
variable {P : Program} {w : World} {K : PySem.W.Frag} {mg : Str → Option Value} {base : Heap}
theorem bool_ite {c : Prop} [Decidable c] {A B : Prop} (h1 : c → A) (h2 : ¬ c → B) : if decide c = true then A else B := by
  by_cases h : c
  · rw [decide_eq_true h, if_pos rfl]; exact h1 h
  · rw [decide_eq_false h, if_neg Bool.false_ne_true]; exact h2 h
theorem atI_get {α : Type} {xs : List α} {i : Int} (h0 : 0 ≤ i) (h1 : i < xs.length) : ∃ x, atI xs i = some x ∧ x ∈ xs := by
  have e : i.toNat < xs.length := by omega
  refine ⟨xs[i.toNat], ?_, List.getElem_mem e⟩
  unfold atI ixN
  rw [if_pos h0, if_pos h1]
  simp [e]
theorem fmod_src (x : Int) : 0 ≤ x.fmod 2305843009213693951 ∧ x.fmod 2305843009213693951 < 2305843009213693951 :=
  ⟨Int.fmod_nonneg_of_pos x (by decide), Int.fmod_lt_of_pos x (by decide)⟩

/-! a def of the top, called by its name -/
def DefIs (K : PySem.W.Frag) (mg : Str → Option Value) (x : Str) (st : Stmt) : Prop := ∃ f fd, mg x = some (.ref f) ∧ FnP K x st f fd
structure Cal (P : Program) (w : World) (K : PySem.W.Frag) (mg : Str → Option Value) (base : Heap) (CX : CXT) (x : Str) (k : Nat) (ps : List Str) (sp : Sp) : Prop where
  ex : ∃ f fd, mg x = some (.ref f) ∧ PySem.W.keepIn K (.ref f) = true ∧ FnOk P w K mg base CX k f fd ps sp ∧ Binds K fd ps []
end
section
variable {X : Cx} {x : Str} {p pos : Pos} {e : Expr} {es : List Expr} {t : TA} {k : Nat} {ps : List Str} {sp : Sp}
theorem pe_cal (c : Cal X.prog X.w X.K X.mg X.base CX0 x k ps sp) (hr : Room k X.A) (ha : PA X (e :: es) t) (hg : Gl X x := by rfl) (hdb : (x == ("__debug__" : Str)) = false := by decide)
    (he : starEach (e :: es) X.env = (false, eval e X.env) :: starEach es X.env := by rfl) (hpl : (backTo pos (starEach es X.env)).any (·.1) = false := by rfl) :
    PE X (.Call (.Name x p) (e :: es) [] pos) (tCall sp [] E0 t) := by
  obtain ⟨f, fd, hm, hk, F, b⟩ := c.ex
  exact pe_call F hr hg hm hk b .nil pass0 ha hdb he hpl
end
section
variable {P : Program} {w : World} {K : PySem.W.Frag} {mg : Str → Option Value} {base : Heap}
end
/-! words -/
def IsWord (z : Str) : Prop := 1 ≤ z.length ∧ z.length ≤ 8 ∧ ∀ c ∈ z.cps.toList, 97 ≤ c ∧ c ≤ 122
def abc : List Nat := [97, 98, 99, 100, 101, 102, 103, 104, 105, 106, 107, 108, 109, 110, 111, 112, 113, 114, 115, 116, 117, 118, 119, 120, 121, 122]
def sign (c : Nat) : Str := ⟨#[c]⟩
abbrev letters : Str := "abcdefghijklmnopqrstuvwxyz"
theorem letters_eq : letters = ⟨abc.toArray⟩ := by decide +kernel
theorem abc_le {c : Nat} (h : c ∈ abc) : 97 ≤ c ∧ c ≤ 122 := by
  have h2 : ∀ c ∈ abc, 97 ≤ c ∧ c ≤ 122 := by decide
  exact h2 c h
theorem tl_sign (c : Nat) : (sign c).cps.toList = [c] := rfl
theorem joinL_flat : ∀ l : List (List Nat), TL.joinL [] l = l.flatten
  | [] => rfl
  | [p] => by simp [TL.joinL]
  | p :: q :: r => by
    show p ++ ([] ++ TL.joinL [] (q :: r)) = _
    rw [joinL_flat (q :: r)]
    simp
theorem join_signs (e : Str) (he : e.cps = #[]) (cs : List Nat) : (Txt.join e (cs.map sign)).cps.toList = cs := by
  rw [TL.join_eq]
  have h : (Str.join e (cs.map sign)).cps.toList = TL.joinL e.cps.toList ((cs.map sign).map fun z => z.cps.toList) := TL.tl_join e (cs.map sign)
  rw [h, he]
  show TL.joinL [] _ = _
  rw [joinL_flat, List.map_map]
  clear h
  induction cs with
  | nil => rfl
  | cons c r ih =>
    rw [List.map_cons, List.flatten_cons, ih]
    rfl
theorem nodup_le : ∀ {l ts : List Str}, l.Nodup → (∀ x ∈ l, x ∈ ts) → l.length ≤ ts.length
  | [], _, _, _ => Nat.zero_le _
  | x :: l, ts, hn, hs => by
    have hx : x ∈ ts := hs x List.mem_cons_self
    have hn2 := List.nodup_cons.mp hn
    have ih := nodup_le (l := l) (ts := ts.erase x) hn2.2 fun y hy => by
      have ne : y ≠ x := fun e => hn2.1 (e ▸ hy)
      exact (List.mem_erase_of_ne ne).mpr (hs y (List.mem_cons_of_mem _ hy))
    rw [List.length_erase_of_mem hx] at ih
    have pos : 0 < ts.length := List.length_pos_of_mem hx
    simp only [List.length_cons]
    omega
def cand (w : Str) (c : Nat) : Str := cutS (sign c ++ w) none (some 8)
theorem tl_app (a b : Str) : (a ++ b).cps.toList = a.cps.toList ++ b.cps.toList := by
  rw [PySem.Str.cps_append, Array.toList_append]
theorem len_tl (a : Str) : a.length = a.cps.toList.length := by simp [Str.length]
theorem cand_tl (w : Str) (c : Nat) : (cand w c).cps.toList = (c :: w.cps.toList).take 8 := by
  unfold cand cutS
  have e : (sign c ++ w).cps.toList = c :: w.cps.toList := tl_app _ _
  have l : (sign c ++ w).length = w.cps.toList.length + 1 := by rw [len_tl, e]; rfl
  rw [e, l]
  have h8 : HT.sIx (w.cps.toList.length + 1) (w.cps.toList.length + 1) (some 8) = min 8 (w.cps.toList.length + 1) := HT.sIx_nat _ _ 8
  rw [h8]
  show (List.take (min 8 (w.cps.toList.length + 1) - 0) (List.drop 0 (c :: w.cps.toList))) = _
  rw [Nat.sub_zero, List.drop_zero]
  have : (c :: w.cps.toList).length = w.cps.toList.length + 1 := rfl
  rw [← this, ← List.take_eq_take_min]
theorem cand_word {w : Str} {c : Nat} (h : IsWord w) (hc : c ∈ abc) : IsWord (cand w c) := by
  have e := cand_tl w c
  obtain ⟨h1, h2, h3⟩ := h
  rw [len_tl] at h1 h2
  refine ⟨?_, ?_, fun d hd => ?_⟩
  · rw [len_tl, e]; simp
  · rw [len_tl, e]; simp; omega
  · rw [e] at hd
    rcases List.mem_cons.mp (List.mem_of_mem_take hd) with q | q
    · rw [q]; exact abc_le hc
    · exact h3 d q
theorem cand_inj {w : Str} {c d : Nat} (h : cand w c = cand w d) : c = d := by
  have e : (cand w c).cps.toList = (cand w d).cps.toList := by rw [h]
  rw [cand_tl, cand_tl] at e
  simpa using e
theorem free_some (w : Str) (ts : List Str) (h : ts.length ≤ 25) : abc.filter (fun c => !decide (cand w c ∈ ts)) ≠ [] := by
  intro e
  have ha : ∀ c ∈ abc, cand w c ∈ ts := fun c hc => by
    have := List.filter_eq_nil_iff.mp e c hc
    simpa using this
  have nd : (abc.map (cand w)).Nodup := by
    have h0 : abc.Nodup := by decide
    exact List.Pairwise.map _ (fun a b ne q => ne (cand_inj q)) h0
  have l := nodup_le nd (ts := ts) (fun x hx => by
    obtain ⟨c, hc, rfl⟩ := List.mem_map.mp hx
    exact ha c hc)
  rw [List.length_map] at l
  have : abc.length = 26 := rfl
  omega
theorem inV_str (w : Str) (ts : List Str) : inV (.str w) (ts.map V.str) = decide (w ∈ ts) := by
  unfold inV
  rw [List.any_map]
  apply Bool.eq_iff_iff.mpr
  simp only [List.any_eq_true, Function.comp, decide_eq_true_eq]
  constructor
  · rintro ⟨y, hy, e⟩
    have e2 : (y == w) = true := e
    exact (eq_of_beq e2) ▸ hy
  · intro h
    exact ⟨w, h, beq_self_eq_true w⟩
theorem flat_strs (ts : List Str) : (ts.map V.str).all flatV = true := by
  rw [List.all_map]
  exact List.all_eq_true.mpr fun _ _ => rfl
abbrev nWord : List Str := ["source", "taken", "letters", "word", "free", "turn", "letter"]
def spWord (K : PySem.W.Frag) : Sp := fun vs H Q _ => ∃ (a b : Addr) (n : Nat) (ts : List Str), vs = [.ref a, .ref b] ∧ Src H a n ∧ n ≤ 900000000 ∧ b ≠ a ∧ SqL K H b (ts.map V.str) ∧ ts.length ≤ 25 ∧
  ∀ H' w, Keep a H H' → Src H' a (n + 10) → IsWord w → w ∉ ts → Q (.str w) H'
section
variable {P : Program} {w : World} {K : PySem.W.Frag} {mg : Str → Option Value} {base : Heap}
theorem str_notmem {z : Str} {ts : List Str} {A B : Prop} (h1 : z ∉ ts → A) (h2 : z ∈ ts → B) : if (if true = true then !inV (.str z) (ts.map V.str) else inV (.str z) (ts.map V.str)) = true then A else B := by
  rw [if_pos rfl, inV_str]
  by_cases h : z ∈ ts
  · rw [decide_eq_true h, Bool.not_true, if_neg Bool.false_ne_true]; exact h2 h
  · rw [decide_eq_false h, Bool.not_false, if_pos rfl]; exact h1 h
theorem letters_cps : letters.cps = abc.toArray := by rw [letters_eq]
theorem abc_at {i : Int} (h0 : 0 ≤ i) (h1 : i < 26) : ∃ c, atI letters.cps.toList i = some c ∧ c ∈ abc := by
  rw [letters_cps]
  exact atI_get (xs := abc) h0 (by show i < 26; exact h1)
end
/-! isinstance of a caught error that has its own dict -/
def rIsED (K : PySem.W.Frag) (cls : Value) (d : Option Addr) (a : Addr) : List V → Hp → VK → Prop := fun xs H Q =>
  ∃ (D dd : Addr) (c : V) (cv : Value) (b : Bool) (fs : List (Str × V)), cls = .ref D ∧ d = some dd ∧ ExcC K D ∧ xs = [.ref a, c] ∧ (∀ u, RelV c u → u = cv) ∧ H dd = some (.xd fs) ∧ PySem.W.kitOne K (.ref D) cv = some b ∧ Q (.bl b) H
theorem call_isED {X : Cx} {a : Addr} {cls : Value} {d : Option Addr} {oe : Obj} {pn : List (Addr × Obj)} (hz : Zc cls d oe) (hf : ∃ vs, oe.data = .fields vs) :
    CallR (X.suite a ((a, oe) :: pn)) (.builtin "isinstance") (rIsED X.K cls d a) := by
  intro pins s σ H xs us Q I r h
  obtain ⟨D, dd, c, cv, b, fs, rfl, rfl, C, rfl, hcv, hdd, e, q⟩ := h
  obtain ⟨u1, u2, rfl, r1, r2⟩ := vals2 r
  obtain rfl : u1 = Value.ref a := r1
  obtain rfl := hcv _ r2
  have hp := (I.pin (a, oe) (List.mem_append_left _ List.mem_cons_self)).1
  obtain ⟨mA, hns, _⟩ := (show ObjOk X.prog X.w H s.heap dd (.xd fs) from I.hok dd _ hdd)
  obtain ⟨od, ho, _⟩ := lookIn_ns hns
  obtain ⟨vs, hv⟩ := hf
  have J : PySem.W.InstAt s.heap a oe D (some od) := ⟨hp, hz.1, by unfold PySem.W.notCls; rw [hv] <;> rfl, by rw [hz.2]; exact ho⟩
  have hc : (PySem.W.clsIn X.K D).isSome = true := by
    have z := C.hd
    unfold PySem.W.hasDictIn at z
    cases q : PySem.W.clsIn X.K D with
    | none => rw [q] at z; cases z
    | some y => rfl
  exact PySem.W.kia_one (PySem.W.kitx_exc hc C.hg C.hk C.hs C.ha C.hn C.ht C.hm) I.kIn J e (fun z => nomatch z) fun tk => ⟨.bl b, H, I.tok tk, rfl, q⟩
/-! f(k = v, ..), nothing by position, what it raises wished for at the caller's slots -/
def tCallKS (m : Nat) (sp : Sp) (gV : List V → List V → List V) (E : L2.St → XK) (tk : TA) : TE := fun σ H Q => tk σ H fun zs H2 => zs.length = m ∧ sp (gV [] zs) H2 Q (E σ)
section
variable {X : Cx} {CX : CXT} {k : Nat} {f : Addr} {fd : FuncData} {ps ks : List Str} {sp : Sp} {E : L2.St → XK} {x : Str} {p pos : Pos} {kws : List Keyword} {tk : TA} {g : List Value → List Value → List Value} {gV : List V → List V → List V}
theorem pe_callKS (F : FnOk X.prog X.w X.K X.mg X.base CX k f fd ps sp) (hr : Room k X.A) (hm : X.mg x = some (.ref f)) (hk : PySem.W.keepIn X.K (.ref f) = true) (hb : KBn X.K fd ps 0 ks g gV) (hx : ∀ σ, PassesAt CX X σ (E σ)) (hkw : PK X kws tk)
    (hg : Gl X x := by rfl) (hall : (backToKw pos (keywordEach kws X.env)).all (·.1.isSome) = true := by rfl) (hks : (backToKw pos (keywordEach kws X.env)).filterMap (·.1) = ks := by rfl) (hdb : (x == ("__debug__" : Str)) = false := by decide)
    (hpl : ((backTo pos (starEach [] X.env)).any (·.1) || (backToKw pos (keywordEach kws X.env)).any (·.1.isNone)) = false := by rfl) :
    PE X (.Call (.Name x p) [] kws pos) (tCallKS ks.length sp gV E tk) := by
  refine ⟨fun pins s σ H Q I h => wpAny_Call_Name_kw (ld_glob I hg hm ?_ hdb)⟩
  refine PySem.W.callWith_KW0 (h₀ := X.base) I.ok.mod.kin hk hall (thn (hkw.run pos pins s σ H _ I h) fun ws s2 ⟨zs, H2, I2, rz, l2, q2⟩ => ⟨I2.kIn, ?_⟩) hpl
  rw [hks]
  have r2 := hb.rel .nil rz
  have bt := hb.to s2 [] ws I2.kIn rfl (rz.length.symm.trans l2)
  refine wpAny_call (codeAny_mono (F.run X.A X.stack s2 H2 ⟨[], ks.zip ws⟩ (g [] ws) (gV [] zs) Q (E σ) hr I2.env0 bt r2 q2) fun r s' hq => ?_)
  match r, hq with
  | .error e, hq => exact hx σ pins H2 s2 e s' I2 hq
  | .ok (.ret u), hq => exact I2.after hq
  | .ok .next, hq => exact hq.elim
  | .ok .brk, hq => exact hq.elim
  | .ok .cont, hq => exact hq.elim
end
structure TxtP (mg : Str → Option Value) : Prop where
  isi : mg "isinstance" = none
  int : mg "int" = none
  bool : mg "bool" = none
  str : mg "str" = none
  list : mg "list" = none
  tuple : mg "tuple" = none
  dict : mg "dict" = none
  len : mg "len" = none
  all : mg "all" = none
  longest : ∃ t, mg "LONGEST_WORD" = some (.int 8 t)
/-- a value of a built-in type t -/
def IsTy (K : PySem.W.Frag) (H : Hp) (v : V) (t : String) : Prop := TyX K H v (.type t)
def NotTy (K : PySem.W.Frag) (H : Hp) (v : V) (c : String) : Prop := ∃ t, TyX K H v (.type t) ∧ kitB t c = some false
def isWordB (z : Str) : Bool := decide (1 ≤ z.length) && (decide (z.length ≤ 8) && z.cps.toList.all fun c => decide (97 ≤ c) && decide (c ≤ 122))
theorem isWordB_iff (z : Str) : isWordB z = true ↔ IsWord z := by
  unfold isWordB IsWord
  simp only [Bool.and_eq_true, decide_eq_true_eq, List.all_eq_true]
theorem isWordB_true {z : Str} (h : IsWord z) : isWordB z = true := (isWordB_iff z).mpr h
theorem isWordB_false {z : Str} (h : ¬ IsWord z) : isWordB z = false := by
  cases e : isWordB z with
  | false => rfl
  | true => exact absurd ((isWordB_iff z).mp e) h
def spIsInteger (K : PySem.W.Frag) : Sp := fun vs H Q _ => ∃ (v : V) (b : Bool), vs = [v] ∧
  ((b = true ∧ ∃ i, v = .int i) ∨ (b = false ∧ ((∃ c, v = .bl c) ∨ NotTy K H v "int"))) ∧ Q (.bl b) H
def spIsWord (K : PySem.W.Frag) : Sp := fun vs H Q _ => ∃ (v : V) (b : Bool), vs = [v] ∧
  ((∃ z, v = .str z ∧ z.length ≤ 1000 ∧ b = isWordB z) ∨ (b = false ∧ NotTy K H v "str")) ∧ ∀ H', Same H H' → Q (.bl b) H'
def spCopied (K : PySem.W.Frag) : Sp := fun vs H Q _ => ∃ (v : V), vs = [v] ∧ NotTy K H v "list" ∧ NotTy K H v "tuple" ∧ NotTy K H v "dict" ∧ Q v H
section
variable {P : Program} {w : World} {K : PySem.W.Frag} {mg : Str → Option Value} {base : Heap}
theorem ty_int {H : Hp} (i : Int) : TyX K H (.int i) (.type "int") := .base (.int i)
theorem ty_bl {H : Hp} (i : Bool) : TyX K H (.bl i) (.type "bool") := .base (.bl i)
theorem ty_str {H : Hp} (i : Str) : TyX K H (.str i) (.type "str") := .base (.str i)
theorem ty_non {H : Hp} : TyX K H .non (.type "NoneType") := .base .non
theorem lt_sign (c d : Nat) : decide (([c] : List Nat) < [d]) = decide (c < d) := by
  have : (([c] : List Nat) < [d]) ↔ c < d := by
    rw [List.cons_lt_cons_iff]
    simp
  simp only [this]
end
theorem exc_end {H : Hp} {a C d : Addr} {fs : List (Str × V)} (na : H a = none) (nd : upd H a (exo a C none) d = none) (da : d ≠ a) :
    H d = none ∧ Same H (upd (del (upd (upd (upd H a (exo a C none)) d (exd d fs)) a (exo a C (some d))) a) d (.xd fs)) := by
  have n2 : H d = none := by rw [upd_ne da] at nd; exact nd
  refine ⟨n2, fun b o h => ?_⟩
  rw [upd_ne (ne_of_none h n2), del_ne (ne_of_none h na), upd_ne (ne_of_none h na), upd_ne (ne_of_none h n2), upd_ne (ne_of_none h na)]
  exact h
theorem Same.new {H H1 : Hp} {p : Addr} {o : HO} (s : Same H H1) (h : H1 p = none) : Same H (upd H1 p o) := fun b u e => by
  rw [upd_ne (ne_of_none (s b u e) h)]
  exact s b u e
section
variable {P : Program} {w : World} {K : PySem.W.Frag} {mg : Str → Option Value} {base : Heap}
theorem nt_str {H : Hp} (z : Str) : NotTy K H (.str z) "list" ∧ NotTy K H (.str z) "tuple" ∧ NotTy K H (.str z) "dict" :=
  ⟨⟨_, ty_str z, by decide +kernel⟩, ⟨_, ty_str z, by decide +kernel⟩, ⟨_, ty_str z, by decide +kernel⟩⟩
theorem NotTy.same {H H1 : Hp} {v : V} {c : String} (s : Same H H1) (h : NotTy K H v c) : NotTy K H1 v c := by
  obtain ⟨t, ht, k⟩ := h
  refine ⟨t, ?_, k⟩
  cases ht with
  | base b => cases b with
    | non => exact .base .non
    | bl y => exact .base (.bl y)
    | int i => exact .base (.int i)
    | str y => exact .base (.str y)
    | flt y => exact .base (.flt y)
    | lst e => exact .base (.lst (s _ _ e))
    | frz e => exact .base (.frz (s _ _ e))
    | tup e => exact .base (.tup (s _ _ e))
    | dK e => exact .base (.dK (s _ _ e))
    | dT e => exact .base (.dT (s _ _ e))
  | byt b => exact .byt b
  | set e => exact .set (s _ _ e)
  | kList e c => exact .kList e c
  | kTuple e c => exact .kTuple e c
  | kDict e c => exact .kDict e c
  | fTuple e => exact .fTuple (s _ _ e)
  | fDict e => exact .fDict (s _ _ e)
theorem not_nt_str {H : Hp} {z : Str} (h : NotTy K H (.str z) "str") : False := by
  obtain ⟨t, ht, k⟩ := h
  generalize hv : V.str z = v at ht
  generalize hu : Value.type t = u at ht
  cases ht with
  | base b =>
    cases b with
    | str y =>
      cases hu
      exact absurd k (by decide +kernel)
    | _ => cases hv
  | _ => cases hv
end
def oddStrs : List Str := ["", "abcdefghi", "A", "aB", "a1", "a b", " a", "a_", "-"]
inductive Odd (a : Addr) (H : Hp) : V → Prop where
  | str {z : Str} (h : z ∈ oddStrs) : Odd a H (.str z)
  | non : Odd a H .non
  | int (i : Int) : Odd a H (.int i)
  | bl (b : Bool) : Odd a H (.bl b)
  | tup {p : Addr} {xs : List V} (n : p ≠ a) (h : H p = some (.tup xs)) (e : xs = [] ∨ xs = [.str "a"]) : Odd a H (.ref p)
  | lst {p : Addr} {xs : List V} (n : p ≠ a) (h : H p = some (.lst xs)) (e : xs = [] ∨ xs = [.str "a"]) : Odd a H (.ref p)
  | dic {p : Addr} (n : p ≠ a) (h : H p = some (.dK [(.inr "a", .str "b")])) : Odd a H (.ref p)
theorem Odd.keep {a : Addr} {H H' : Hp} {v : V} (k : Keep a H H') (h : Odd a H v) : Odd a H' v := by
  cases h with
  | str h => exact .str h
  | non => exact .non
  | int i => exact .int i
  | bl b => exact .bl b
  | tup n h e => exact .tup n (k _ _ n h) e
  | lst n h e => exact .lst n (k _ _ n h) e
  | dic n h => exact .dic n (k _ _ n h)
theorem odd_notword {K : PySem.W.Frag} {a : Addr} {H : Hp} {v : V} (h : Odd a H v) : (∃ z, v = .str z ∧ z.length ≤ 1000 ∧ ¬ IsWord z) ∨ NotTy K H v "str" := by
  cases h with
  | @str z h =>
    have e : ∀ z ∈ oddStrs, (decide (z.length ≤ 1000) && !isWordB z) = true := by decide +kernel
    have e2 := e z h
    simp only [Bool.and_eq_true, decide_eq_true_eq, Bool.not_eq_true'] at e2
    exact .inl ⟨z, rfl, e2.1, fun hw => by rw [isWordB_true hw] at e2; cases e2.2⟩
  | non => exact .inr ⟨_, ty_non, by decide +kernel⟩
  | int i => exact .inr ⟨_, ty_int i, by decide +kernel⟩
  | bl b => exact .inr ⟨_, ty_bl b, by decide +kernel⟩
  | tup n h e => exact .inr ⟨_, .base (.tup h), by decide +kernel⟩
  | lst n h e => exact .inr ⟨_, .base (.lst h), by decide +kernel⟩
  | dic n h => exact .inr ⟨_, .base (.dK h), by decide +kernel⟩
theorem same_new2 {H : Hp} {p : Addr} {o u : HO} (n : H p = none) : Same H (upd (upd H p o) p u) := fun b x h => by
  rw [upd_ne (ne_of_none h n), upd_ne (ne_of_none h n)]
  exact h
def spOdd : Sp := fun vs H Q _ => ∃ (a : Addr) (n : Nat), vs = [.ref a] ∧ Src H a n ∧ n ≤ 900000000 ∧ ∀ H' v, Keep a H H' → Src H' a (n + 1) → Odd a H' v → Q v H'
theorem Src.same {H H1 : Hp} {a : Addr} {n : Nat} (s : Same H H1) (h : Src H a n) : Src H1 a n := by
  obtain ⟨d, x, t, h1, h2⟩ := h
  exact ⟨d, x, t, s _ _ h1, h2⟩
section
variable {P : Program} {w : World} {K : PySem.W.Frag} {mg : Str → Option Value} {base : Heap}
end
theorem kb_of {K : PySem.W.Frag} {x qual : Str} {params : Arguments} {body : List Stmt} {scope : Scope} {kws : List (Str × V)} {f : Addr} {fd : FuncData} {ps : List Str} (F : FunD K x qual params body scope [] kws f fd)
    (h : ∀ (kV doc pm : Value) (an : Option Addr) (cdv ct : Value) (ws : List Value), ws.length = ps.length → bindArgs (PySem.W.fnOf x qual params body scope .none kV doc pm an cdv ct) ⟨[], ps.zip ws⟩ = pure (ps.zip ws)) : KBn K fd ps 0 ps (fun _ ws => ws) (fun _ zs => zs) := by
  obtain ⟨oc, od, dV, kV, doc, pm, an, cdv, ct, osl, rfl, lk, hcd, hD, hK⟩ := F.ex
  rcases hD with ⟨_, rfl⟩ | ⟨e, _⟩
  · exact ⟨fun s us ws _ l1 l2 => by
      obtain rfl : us = [] := List.length_eq_zero_iff.mp l1
      exact .of_eq (h kV doc pm an cdv ct ws l2), fun _ r => r⟩
  · exact absurd rfl e
end Lw
namespace Hk
open PySem PySem.Spec PyProof.Rows L2
/-! a Hook: facts, defs, tables, one Bool more -/
abbrev Al : Type := He.AlT × Bool
def obG (n : Nat) (fa : List He.Fa) (fn : List He.DefD) (ts : List He.Tab) (own : PySem.W.Frag → Bool) (g : Addr → Option Obj) : Al := (He.obsTG n fa fn ts g, own (He.frG g (He.asD g n)))
def Says (fa : List He.Fa) (fn : List He.DefD) (ts : List He.Tab) (own : PySem.W.Frag → Bool) (w : World) (K : PySem.W.Frag) : Prop := He.SaysT fa fn ts w K ∧ own K = true
def hook (n : Nat) (fa : List He.Fa) (fn : List He.DefD) (ts : List He.Tab) (own : PySem.W.Frag → Bool) : PySem.W.Hook where
  α := Al
  obs := fun s => obG n fa fn ts own s.heap.get?
  val := fun w => (He.valT fn ts w, true)
  says := fun w h => ∃ K : PySem.W.Frag, K.In h ∧ Says fa fn ts own w K
  of := fun _ _ e => ⟨_, He.frG_in, congrArg Prod.fst e, congrArg Prod.snd e⟩
  keeps := fun _ _ _ ⟨K, hK, c⟩ k => ⟨K, PySem.W.Frag.In.keeps hK k, c⟩
theorem obG_eq {n : Nat} {fa : List He.Fa} {fn : List He.DefD} {ts : List He.Tab} {own : PySem.W.Frag → Bool} {g : Addr → Option Obj} {s : Shared} (h : ∀ a, g a = s.heap.get? a) : obG n fa fn ts own g = (hook n fa fn ts own).obs s := by
  rw [show g = s.heap.get? from funext h] <;> rfl
/-- an own error class over ValueError with an own __init__ -/
def oexB (K : PySem.W.Frag) (C : Addr) : Bool := match K.lookup C with
  | some ⟨.type t, _, .cls ⟨_, _, .ref c :: bm, _, _, true, _, _, _, _, false⟩, sl⟩ => (decide (t = "type") && (decide (c = C) && PySem.HandSPX.refsVE bm)) && (match sl.toList with
    | [_, _, _, _, some (.builtin z), _] => decide (z = "ValueError.__new__")
    | _ => false)
  | _ => false
def clsB (K : PySem.W.Frag) (C : Addr) : Bool := oexB K C && (He.eqO (PySem.W.findIn K (.ref C) "__setattr__") (some (some (.builtin "object.__setattr__"))) && (decide (PySem.W.subIn K (.ref C) (.type "BaseException") = some true) &&
  (decide (PySem.W.typeIn K (.ref C) = some (.type "type")) && PySem.W.keepIn K (.ref C))))
theorem oexB_ok {K : PySem.W.Frag} {C : Addr} (h : clsB K C = true) : OexC K C := by
  obtain ⟨h1, h⟩ := He.ba h
  obtain ⟨h2, h⟩ := He.ba h
  obtain ⟨h3, h⟩ := He.ba h
  obtain ⟨h4, h5⟩ := He.ba h
  refine ⟨?_, He.eqO_ok h2, of_decide_eq_true h3, of_decide_eq_true h4, h5⟩
  unfold oexB at h1
  split at h1
  · rename_i t dd nm bs c bm N qn sn sub ab col sl e
    obtain ⟨q1, q2⟩ := He.ba h1
    obtain ⟨q3, q4⟩ := He.ba q1
    obtain ⟨q5, q6⟩ := He.ba q4
    have e1 := of_decide_eq_true q3
    have e2 := of_decide_eq_true q5
    subst e1 e2
    split at q2
    · rename_i k0 k1 k2 k3 z k5 es
      have e3 := of_decide_eq_true q2
      subst e3
      obtain ⟨sl⟩ := sl
      simp only at es
      subst es
      exact ⟨nm, qn, N, bs, bm, sn, sub, ab, col, dd, k0, k1, k2, k3, k5, e, q6⟩
    · cases q2
  · cases h1
/-- isinstance asks its instances rightly -/
def excB (K : PySem.W.Frag) (D : Addr) : Bool := L2.xfB K D && (He.eqO (PySem.W.findIn K (.ref D) "__class__") (some (some (.builtin "object.__class__"))) && (decide (PySem.W.mroIn K D (.type "object") = some true) && getB K))
where getB (K : PySem.W.Frag) : Bool := decide (PySem.W.specialIn K (.builtin "object.__class__") "__get__" = some (some (.builtin "getset_descriptor.__get__"))) && decide (PySem.W.takesIn K (.builtin "object.__class__") = some true)
theorem excB_ok {K : PySem.W.Frag} {D : Addr} (h : excB K D = true) : ExcC K D ∧ XfC K D := by
  obtain ⟨h1, h⟩ := He.ba h
  obtain ⟨h2, h⟩ := He.ba h
  obtain ⟨h3, h⟩ := He.ba h
  obtain ⟨h4, h5⟩ := He.ba h
  have x := L2.xfB_ok h1
  exact ⟨⟨x.ga, x.gg, x.exC, x.hdC, He.eqO_ok h2, of_decide_eq_true h4, of_decide_eq_true h5, of_decide_eq_true h3⟩, x⟩
/-- isinstance of an own class's instances -/
def insB (K : PySem.W.Frag) (D : Addr) : Bool := He.eqO (PySem.W.findIn K (.ref D) "__class__") (some (some (.builtin "object.__class__"))) && (decide (PySem.W.mroIn K D (.type "object") = some true) && excB.getB K)
end Hk

set_option Elab.async false
set_option linter.all false
set_option maxRecDepth 100000
set_option maxHeartbeats 4000000
namespace Lw
open PySem PySem.Spec PyProof.Rows L2
/-! an own error with an own __init__, made: its context is None -/
section
variable {X : Cx} {CX : CXT} {x : Str} {e : Expr} {es : List Expr} {ta : TA} {p pos : Pos} {C fI : Addr} {k : Nat} {fd : FuncData} {ps : List Str} {sp : Sp} {ds : List Value} {dvs : List V}
theorem pmk_oexN (T : OexC X.K C) (iC : PySem.W.findIn X.K (.ref C) "__init__" = some (some (.ref fI))) (tI : PySem.W.typeIn X.K (.ref fI) = some (.type "function")) (F1 : FnOk X.prog X.w X.K X.mg X.base CX k fI fd ps sp) (hr : Room (k + 1) X.A) (hb : Binds X.K fd ps ds)
    (hd : Vals dvs ds) (hx : Passes CX X (fun _ _ _ => False)) (hm : X.mg x = some (.ref C)) (ha : PA X (e :: es) ta) (hg : Gl X x := by rfl) (hdb : (x == ("__debug__" : Str)) = false := by decide) (he : starEach (e :: es) X.env = (false, eval e X.env) :: starEach es X.env := by rfl)
    (hpl : (backTo pos (starEach es X.env)).any (·.1) = false := by rfl) : L2N.PMk X (.Call (.Name x p) (e :: es) [] pos) (tMkO C sp dvs ta) := fun pins s σ H Q I h => by
  obtain ⟨nm, qn, N, bs, bm, sn, sub, ab, col, dd, k0, k1, k2, k3, k5, hC, hbm⟩ := T.cls
  refine wpAny_Call_Name_kw (ld_glob I hg hm (PySem.W.callWith_K (h₀ := X.base) I.ok.mod.kin T.kC (thn (ha.run pos pins s σ H _ I h) fun us st ⟨vs, H1, J, rv, hz, q1⟩ => ⟨J.kIn, ?_⟩) he hpl) hdb)
  show wpAny _ _ (call (.ref C) us) _ _ _
  obtain ⟨hp, g, dr, tk, os⟩ := st
  have up : hp.objs.size ≤ hp.objs.size + 1 := by omega
  have spec := q1 (hp.objs.size + 1) (J.hok.fresh up)
  have stay : ∀ b o, hp.get? b = some o → ((hp.push (PySem.W.kdv_tup us)).push (PySem.HandSPX.excO C hp.objs.size)).get? b = some o := fun b o z => Heap.get?_push_of_some _ (Heap.get?_push_of_some _ z)
  have there : ((hp.push (PySem.W.kdv_tup us)).push (PySem.HandSPX.excO C hp.objs.size)).get? (hp.objs.size + 1) = some (PySem.HandSPX.excO C hp.objs.size) := by heap_get
  have J2 := J.laid (t' := tk) (a := hp.objs.size + 1) (o := exo (hp.objs.size + 1) C none) (h' := (hp.push (PySem.W.kdv_tup us)).push (PySem.HandSPX.excO C hp.objs.size)) stay up (exo_ok there)
  have rel : Vals (V.ref (hp.objs.size + 1) :: (vs ++ dvs)) (Value.ref (hp.objs.size + 1) :: (us ++ ds)) := .cons rfl (rv.append hd)
  have len : (Value.ref (hp.objs.size + 1) :: us ++ ds).length = ps.length := (F1.len _ _ _ _ spec ▸ rel.length).symm
  have line : us.length ≤ sizeLine := by rw [← Paired.length rv, sizeLine_eq]; omega
  refine wpAny_call (PySem.HandSPX.call_own F.excBase_ValueError (fun Y => PySem.HandSPX.refsVE_contains Y bm hbm) (J.kIn _ _ hC) (PySem.W.looks_findIn J.kIn iC) (fun self => PySem.W.bind_fn J.kIn self tI) line
    (codeAny_mono (F1.run _ X.stack _ _ ⟨Value.ref (hp.objs.size + 1) :: us, []⟩ (Value.ref (hp.objs.size + 1) :: (us ++ ds)) _ _ (fun _ _ _ => False) (hr.make C us []) (J2.env0.make C us []) (hb _ (Value.ref (hp.objs.size + 1) :: us) J2.kIn len) rel spec) fun r s' back => ?_))
  match r, back with
  | .error er, back => exact hx pins σ _ _ er s' J2 back
  | .ok .next, back => exact back.elim
  | .ok .brk, back => exact back.elim
  | .ok .cont, back => exact back.elim
  | .ok (.ret u), back =>
    obtain ⟨v, H2, os2, bare2, un2, hok2, rv2, ev, d, fs, ea, ed, hd1, q2⟩ := back
    subst ev
    obtain ⟨h2, g2, d2, t2, os'⟩ := s'
    obtain ⟨t0, G, JG, kG, ge, hoe, na⟩ := mk_end0 (d2 := d2) (t2 := t2) J up stay un2 hok2 os2 bare2 ea ed hd1
    exact ⟨rv2, _, _, _, ⟨G, g2, d2, t2, os'⟩, _, .ref C, some d, rfl, JG, kG, ge, hoe, ⟨rfl, rfl, fun z ez => by cases ez; rfl⟩, rfl, rfl, na, rfl, bare2, raises_own T.exC T.tyC, q2⟩
/-! C(e, ..), C what a local name holds -/
def tMakeL (i : Nat) (C : Addr) (sp : Sp) (E : XK) (t : TA) : TE := fun σ H Q => σ[i]? = some (some (.ref C)) ∧ tMake C sp [] E t σ H Q
theorem pe_makeL {E : XK} {t : TA} {i f : Nat} (M : Mk X.K C f) (F : FnOk X.prog X.w X.K X.mg X.base CX k f fd ps sp) (hr : Room (k + 1) X.A) (hN : X.N[i]? = some x) (hv : Vis X.env.scope x) (hb : Binds X.K fd ps []) (hx : Passes CX X E) (ha : PA X (e :: es) t)
    (hdb : (x == ("__debug__" : Str)) = false := by decide) (hcd : (x == ("__classdict__" : Str)) = false := by decide) (he : starEach (e :: es) X.env = (false, eval e X.env) :: starEach es X.env := by rfl) (hpl : (backTo pos (starEach es X.env)).any (·.1) = false := by rfl) :
    PE X (.Call (.Name x p) (e :: es) [] pos) (tMakeL i C sp E t) := ⟨fun pins s σ H Q I ⟨hs, ht⟩ => by
  refine wpAny_Call_Name_kw (thn ((pe_var (pos := p) hN hv hdb hcd).run pins s σ H (fun v H1 => v = .ref C ∧ H1 = H) I ⟨.ref C, hs, rfl, rfl⟩) fun u s1 ⟨v, H1, J, r1, e1, e2⟩ => ?_)
  subst e1 e2
  obtain rfl : u = Value.ref C := r1
  exact PySem.W.callWith_K (h₀ := X.base) J.ok.mod.kin M.kp (thn (ha.run pos pins s1 σ H1 _ J ht) fun us s2 ⟨vs, H2, J2, r, q⟩ => ⟨J2.kIn, run_make M F hr hb .nil hx J2 r q⟩) he hpl⟩
/-! what a try's body lets out, whatever its slots are -/
def WL (X : Cx) (W : WX) : XK := fun cls d H => ∀ σ : L2.St, σ.length = X.N.length → W cls d σ H
theorem passL {W : WX} (tk : L2N.Takes X W) : Passes (L2N.CX X.prog X.w) X (WL X W) := fun pins σ H s u s' I c => by
  obtain ⟨a, B, H', cls, d, hu, fl, hok, ub, na, os, ag, hE⟩ := c
  exact tk u s' (L2N.XE.of_call (W := W) (E := fun c d H => W c d σ H) I (fun _ _ _ z => z) ⟨a, B, H', cls, d, hu, fl, hok, ub, na, os, ag, hE σ I.len⟩)
end
/-! a def called while an error is handled -/
theorem okH {CX : CXT} {P : Program} {w : World} {K : PySem.W.Frag} {mg : Str → Option Value} {base : Heap} {k : Nat} {x qual : Str} {params : Arguments} {bd : List Stmt} {scope : Scope} {dvs : List V} {kws : List (Str × V)} {f : Addr} {fd : FuncData} {N ps : List Str} {sp : Sp}
    (F : FunD K x qual params bd scope dvs kws f fd) (S : FnScope N ps scope) (len : ∀ vs H Q E, sp vs H Q E → vs.length = ps.length)
    (hb : ∀ (cdv : Value) (A : Around) (outer : List Env) (s : Shared) (H : Hp) (vs : List V) (Q : VK) (E : XK) (p : Addr × Obj), L2H.Hot1 A p → L2H.RoomH k (A.deeper (envOfC qual scope s.heap.objs.size f cdv)) → sp vs H Q E →
      ∃ t, PSs (L2H.cxH CX P w K mg base N qual scope f cdv A outer s H E p) bd t ∧ t { nx := fun _ H' => Q .non H', rt := Q } (start N vs) H) : L2H.FnH P w K mg base CX (k + 1) f fd ps sp := by
  obtain ⟨oc, od, dV, kV, doc, pm, an, cdv, ct, osl, rfl, lk, hcd, _, _⟩ := F.ex
  exact L2H.fn_ofH lk hcd S len fun A outer s H vs Q E p h1 h2 h3 => hb cdv A outer s H vs Q E p h1 h2 h3
end Lw

set_option Elab.async false
set_option linter.all false
set_option maxRecDepth 100000
set_option maxHeartbeats 4000000
namespace Lw
open PySem PySem.Spec PyProof.Rows L2
/-! the draws of the later laws: also out of very many -/
def spDrawW : Sp := fun vs H Q _ => ∃ (a : Addr) (n : Nat) (m : Int), vs = [.ref a, .int m] ∧ Src H a n ∧ n ≤ 1000000000 ∧ 0 < m ∧ m.natAbs < 2 ^ 200 ∧
  ∀ H' i, Keep a H H' → Src H' a (n + 1) → 0 ≤ i → i < m → Q (.int i) H'
theorem small_m {m : Int} (h : -1000000000000000000000 < m ∧ m < 1000000000000000000000) : m.natAbs < 2 ^ 200 := by omega
/-! a tuple that the module holds -/
def tupB (K : PySem.W.Frag) (a : Addr) (xs : List V) : Bool := match K.lookup a with
  | some ⟨.type t, _, .seq its _, _⟩ => decide (t = "tuple") && (decide (its.size ≤ 1000) && decide (its.toList.map absV = xs.map some))
  | _ => false
theorem rel_of_abs {x : V} {u : Value} (h : absV u = some x) : RelV x u := by
  unfold absV at h
  split at h <;> first | cases h | skip
  all_goals first | rfl | exact ⟨_, rfl⟩
theorem vals_of_abs : ∀ {us : List Value} {xs : List V}, us.map absV = xs.map some → Vals xs us
  | [], [], _ => .nil
  | u :: us, x :: xs, h => by
    simp only [List.map_cons, List.cons.injEq] at h
    exact .cons (rel_of_abs h.1) (vals_of_abs h.2)
  | [], _ :: _, h => by cases h
  | _ :: _, [], h => by cases h
theorem tupB_ok {K : PySem.W.Frag} {a : Addr} {xs : List V} {H : Hp} (h : tupB K a xs = true) : SqT K H a xs := by
  unfold tupB at h
  split at h
  · rename_i t d its n sl e
    obtain ⟨h1, h2⟩ := He.ba h
    obtain ⟨h3, h4⟩ := He.ba h2
    have e1 := of_decide_eq_true h1
    have e2 := of_decide_eq_true h3
    have hs : sizeLine = 16777216 := by decide
    subst e1
    exact .inr ⟨_, its, n, e, rfl, rfl, by omega, vals_of_abs (of_decide_eq_true h4)⟩
  · cases h
end Lw
namespace Lw
open PySem PySem.Spec PyProof.Rows L2
theorem it_bf {b : Bool} {A B : Prop} (h : b = false) (x : B) : if b = true then A else B := by
  rw [h, if_neg Bool.false_ne_true]; exact x
theorem it_bt {b : Bool} {A B : Prop} (h : b = true) (x : A) : if b = true then A else B := by
  rw [h, if_pos rfl]; exact x
theorem str_mem {z : Str} {ts : List Str} {A B : Prop} (h1 : z ∈ ts → A) (h2 : z ∉ ts → B) : if inV (.str z) (ts.map V.str) = true then A else B := by
  rw [inV_str]
  by_cases h : z ∈ ts
  · rw [decide_eq_true h, if_pos rfl]; exact h1 h
  · rw [decide_eq_false h, if_neg Bool.false_ne_true]; exact h2 h
theorem kb_rel {K : PySem.W.Frag} {x qual : Str} {params : Arguments} {body : List Stmt} {scope : Scope} {kws : List (Str × V)} {f : Addr} {fd : FuncData} {ps ks : List Str} {g : List Value → List Value} {gV : List V → List V} (F : FunD K x qual params body scope [] kws f fd) (hr : ∀ {zs us}, Vals zs us → Vals (gV zs) (g us))
    (h : ∀ (kV doc pm : Value) (an : Option Addr) (cdv ct : Value) (ws : List Value), ws.length = ks.length → bindArgs (PySem.W.fnOf x qual params body scope .none kV doc pm an cdv ct) ⟨[], ks.zip ws⟩ = pure (ps.zip (g ws))) : KBn K fd ps 0 ks (fun _ ws => g ws) (fun _ zs => gV zs) := by
  obtain ⟨oc, od, dV, kV, doc, pm, an, cdv, ct, osl, rfl, lk, hcd, hD, hK⟩ := F.ex
  rcases hD with ⟨_, rfl⟩ | ⟨e, _⟩
  · exact ⟨fun s us ws _ l1 l2 => by
      obtain rfl : us = [] := List.length_eq_zero_iff.mp l1
      exact .of_eq (h kV doc pm an cdv ct ws l2), fun _ r => hr r⟩
  · exact absurd rfl e
theorem pass0S {X : Cx} : ∀ σ : L2.St, PassesAt CX0 X σ ((fun _ => E0 : L2.St → XK) σ) := fun _ _ _ _ _ _ _ h => h.elim
theorem same_at {H G : Hp} {D : Addr} {o : HO} (n : H D = none) (s : Same H G) : Same H (upd G D o) := fun b u h => by
  rw [upd_ne (ne_of_none h n)]
  exact s b u h
theorem g_name {i : Nat} {v : V} {σ : L2.St} {H : Hp} {Q : L2.St → Hp → Prop} (h : Q (σ.set i (some v)) H) : gName i v σ H Q := h
theorem vals_rev : ∀ {vs : List V} {us : List Value}, Vals vs us → Vals vs.reverse us.reverse
  | _, _, .nil => .nil
  | _, _, .cons h r => by
    rw [List.reverse_cons, List.reverse_cons]
    exact Vals.append (vals_rev r) (.cons h .nil)
end Lw
namespace Lw
open PySem PySem.Spec PyProof.Rows L2
theorem cutV_ints (ns : List Int) (lo hi : Option Int) : ∃ ms : List Int, cutV (ns.map V.int) lo hi = ms.map V.int ∧ ms.length ≤ ns.length := by
  unfold cutV
  refine ⟨(ns.drop (HT.sIx (ns.map V.int).length 0 lo)).take (HT.sIx (ns.map V.int).length (ns.map V.int).length hi - HT.sIx (ns.map V.int).length 0 lo), ?_, ?_⟩
  · rw [List.map_take, List.map_drop]
  · rw [List.length_take, List.length_drop]; omega
theorem none_of_same {H G : Hp} (s : Same H G) {q : Addr} (h : G q = none) : H q = none := by
  cases e : H q with
  | none => rfl
  | some o => rw [s _ _ e] at h; cases h
theorem keep_at {a : Addr} {H G : Hp} {D : Addr} {o : HO} (n : H D = none) (s : Keep a H G) : Keep a H (upd G D o) := fun b u nb h => by
  rw [upd_ne (ne_of_none h n)]
  exact s b u nb h
/-! words, several and different -/
def cand1 (w : Str) (c : Nat) : Str := sign c ++ cutS w (some 1) none
def WInv (z : Str) (ts : List Str) (j : Nat) (y : Str) : Prop := IsWord y ∧ IsWord z ∧ y.cps.toList.drop 1 = z.cps.toList.drop 1 ∧ (y ∉ ts ∨ ∀ i c, i + 1 < j → abc[i]? = some c → cand1 z c ∈ ts) ∧ (y ∉ ts ∨ j = 0 ∨ ∃ c, abc[j - 1]? = some c ∧ y = cand1 z c)
theorem cand1_tl (w : Str) (c : Nat) : (cand1 w c).cps.toList = c :: w.cps.toList.drop 1 := by
  unfold cand1
  rw [tl_app, tl_sign]
  unfold cutS
  have h1 : HT.sIx w.length 0 (some 1) = min 1 w.length := HT.sIx_nat _ _ 1
  have h2 : HT.sIx w.length w.length none = w.length := rfl
  rw [h1, h2]
  have h3 : w.length = w.cps.toList.length := len_tl w
  show [c] ++ (List.take (w.length - min 1 w.length) (List.drop (min 1 w.length) w.cps.toList)) = _
  rw [h3]
  show c :: _ = _
  congr 1
  cases w.cps.toList with
  | nil => rfl
  | cons x r =>
    have e : min 1 (x :: r).length = 1 := by simp only [List.length_cons]; omega
    rw [e]
    simp
theorem WInv.word {z y : Str} {ts : List Str} {j : Nat} (h : WInv z ts j y) : IsWord y := h.1
theorem WInv.zero {z : Str} {ts : List Str} (h : IsWord z) : WInv z ts 0 z := ⟨h, h, rfl, .inr fun i c hi => absurd hi (by omega), .inr (.inl rfl)⟩
theorem WInv.stay {z y : Str} {ts : List Str} {j : Nat} (h : WInv z ts j y) (n : y ∉ ts) : WInv z ts (j + 1) y := ⟨h.1, h.2.1, h.2.2.1, .inl n, .inl n⟩
theorem cand1_inj {w : Str} {c d : Nat} (h : cand1 w c = cand1 w d) : c = d := by
  have e : (cand1 w c).cps.toList = (cand1 w d).cps.toList := by rw [h]
  rw [cand1_tl, cand1_tl] at e
  exact (List.cons.inj e).1
theorem cand1_eq {z y : Str} (e : y.cps.toList.drop 1 = z.cps.toList.drop 1) (c : Nat) : cand1 y c = cand1 z c := by
  have h : (cand1 y c).cps.toList = (cand1 z c).cps.toList := by rw [cand1_tl, cand1_tl, e]
  have h2 : (cand1 y c).cps = (cand1 z c).cps := Array.toList_inj.mp h
  cases h3 : cand1 y c
  cases h4 : cand1 z c
  rw [h3, h4] at h2
  cases h2
  rfl
theorem WInv.step {z y : Str} {ts : List Str} {j c : Nat} (h : WInv z ts j y) (hin : y ∈ ts) (hc : abc[j]? = some c) : WInv z ts (j + 1) (cand1 y c) := by
  obtain ⟨h1, h2, h3, h4, h5⟩ := h
  have t := cand1_tl y c
  refine ⟨?_, h2, by rw [t]; exact h3, .inr fun i d hi hd => ?_, .inr (.inr ⟨c, by simpa using hc, cand1_eq h3 c⟩)⟩
  · obtain ⟨w1, w2, w3⟩ := h1
    rw [len_tl] at w1 w2
    refine ⟨by rw [len_tl, t]; simp, ?_, fun x hx => ?_⟩
    · rw [len_tl, t, List.length_cons, List.length_drop]; omega
    · rw [t] at hx
      rcases List.mem_cons.mp hx with e | e
      · rw [e]; exact abc_le (List.mem_of_getElem? hc)
      · exact w3 x (List.mem_of_mem_drop e)
  · rcases Nat.lt_or_ge (i + 1) j with l | l
    · rcases h4 with h4 | h4
      · exact absurd hin h4
      · exact h4 i d l hd
    · have e : i = j - 1 := by omega
      rcases h5 with h5 | h5 | ⟨d2, e1, e2⟩
      · exact absurd hin h5
      · omega
      · rw [e] at hd
        rw [e1] at hd
        cases hd
        rw [← e2]
        exact hin
theorem WInv.done {z y : Str} {ts : List Str} (h : WInv z ts 26 y) (l : ts.length ≤ 24) : y ∉ ts := by
  obtain ⟨_, _, _, h4, _⟩ := h
  rcases h4 with h4 | h4
  · exact h4
  exfalso
  have hm : ∀ x ∈ (abc.take 25).map (cand1 z), x ∈ ts := fun x hx => by
    obtain ⟨c, hc, rfl⟩ := List.mem_map.mp hx
    obtain ⟨i, hi, e⟩ := List.mem_take_iff_getElem.mp hc
    refine h4 i c (by omega) ?_
    rw [← e]
    exact List.getElem?_eq_getElem _
  have nd : ((abc.take 25).map (cand1 z)).Nodup := by
    have h0 : (abc.take 25).Nodup := by decide
    exact List.Pairwise.map _ (fun a b ne q => ne (cand1_inj q)) h0
  have := nodup_le nd hm
  rw [List.length_map] at this
  have : (abc.take 25).length = 25 := rfl
  omega
def spWord2 (K : PySem.W.Frag) : Sp := fun vs H Q _ => ∃ (a b : Addr) (n : Nat) (ts : List Str), vs = [.ref a, .ref b] ∧ Src H a n ∧ n ≤ 900000000 ∧ b ≠ a ∧ SqL K H b (ts.map V.str) ∧ ts.length ≤ 24 ∧
  ∀ H' w, Keep a H H' → Src H' a (n + 10) → IsWord w → w ∉ ts → Q (.str w) H'
def GoodWs (ws ts : List Str) : Prop := ws.Nodup ∧ ∀ z ∈ ws, IsWord z ∧ z ∉ ts
theorem GoodWs.nil {ts : List Str} : GoodWs [] ts := ⟨List.nodup_nil, fun _ h => (List.not_mem_nil h).elim⟩
theorem GoodWs.snoc {ws ts : List Str} {z : Str} (h : GoodWs ws ts) (hz : IsWord z) (n : z ∉ ts ++ ws) : GoodWs (ws ++ [z]) ts := by
  have n1 : z ∉ ts := fun m => n (List.mem_append_left _ m)
  have n2 : z ∉ ws := fun m => n (List.mem_append_right _ m)
  refine ⟨List.nodup_append.mpr ⟨h.1, by simp, fun x hx y hy => ?_⟩, fun x hx => ?_⟩
  · rw [List.mem_singleton.mp hy]
    exact fun e => n2 (e ▸ hx)
  · rcases List.mem_append.mp hx with m | m
    · exact h.2 x m
    · rw [List.mem_singleton.mp m]; exact ⟨hz, n1⟩
def spWords (K : PySem.W.Frag) : Sp := fun vs H Q _ => ∃ (a b : Addr) (n : Nat) (m : Int) (ts : List Str), vs = [.ref a, .int m, .ref b] ∧ Src H a n ∧ n ≤ 800000000 ∧ b ≠ a ∧ H b = some (.lst (ts.map V.str)) ∧ ts.length ≤ 10 ∧ (0 ≤ m ∧ m ≤ 8) ∧
  ∀ l H' ws, H l = none → Keep a H H' → Src H' a (n + 80) → H' l = some (.lst (ws.map V.str)) → ws.length = m.toNat → GoodWs ws ts → Q (.ref l) H'
def spNumL : Sp := fun vs H Q _ => ∃ (a : Addr) (n : Nat) (m : Int), vs = [.ref a, .int m] ∧ Src H a n ∧ n ≤ 900000000 ∧ 0 < m ∧ m.natAbs < 2 ^ 198 ∧
  ∀ H' i, Keep a H H' → Src H' a (n + 2) → Q (.int i) H'
structure TxtQ (mg : Str → Option Value) : Prop where
  isi : mg "isinstance" = none
  int : mg "int" = none
  bool : mg "bool" = none
  list : mg "list" = none
  dict : mg "dict" = none
end Lw

set_option Elab.async false
set_option linter.all false
set_option maxRecDepth 100000
set_option maxHeartbeats 4000000
namespace Lk
open PySem PySem.Spec PyProof.Rows L2
/-! list(d.keys()) -/
def tListKeys (te : TE) : TE := fun σ H Q => te σ H fun x H1 => ∃ (d : Addr) (kvs : List (Key × V)), x = .ref d ∧ H1 d = some (.dK kvs) ∧ ∀ p, H1 p = none → Q (.ref p) (upd H1 p (.lst (kvs.map fun kv => kV kv.1)))
section
variable {X : Cx} {e : Expr} {te : TE} {p apos cpos pos : Pos}
theorem pe_listKeys (hc : X.calm = true) (he : PE X e te) (hg : Gl X "list") (hm : X.mg "list" = none) (hv : bootBuiltins "list" = some (.type "list")) (hbase : attributeBase e "keys" X.env (eval e X.env) = eval e X.env := by rfl) (hline : (apos.endLine == cpos.line) = true := by rfl)
    (hs : starEach [.Call (.Attribute e "keys" apos) [] [] cpos] X.env = (false, eval (.Call (.Attribute e "keys" apos) [] [] cpos) X.env) :: starEach [] X.env := by rfl) :
    PE X (.Call (.Name "list" p) [.Call (.Attribute e "keys" apos) [] [] cpos] [] pos) (tListKeys te) := by
  refine ⟨fun pins s σ H Q I hq => ?_⟩
  refine wpAny_Call_Name_kw (ld_blt I hg hm hv ?_)
  refine PyProof.Rows.callWith_type1 ?_ hs rfl
  rw [hs]
  show wpAny _ _ (spliced ((false, eval (.Call (.Attribute e "keys" apos) [] [] cpos) X.env) :: backTo pos (starEach [] X.env))) _ _ s
  refine Calls.spliced_cons ?_
  refine wpAny_Call_method (T := "dict") (id := "dict.keys") hbase rfl hline F.plainAttrs_dict F.slot_dict_keys F.type_dict_keys (thn (he.run pins s σ H _ I hq) fun u s1 ⟨x, H1, I1, rx, d, kvs, ex, hd, q⟩ => ?_)
  subst ex
  obtain rfl : u = Value.ref d := rx
  obtain ⟨hz, hs0, vs, kv, hdo⟩ := I1.hok d _ hd
  obtain ⟨ep, hat⟩ := hdo.dictAt
  have lk : kvs.length = vs.length := Paired.length kv
  have I2 : Inv X pins σ H1 { s1 with heap := s1.heap.push { cls := .type "dict_keys", data := .fields #[.ref d] } } := I1.kept (t' := s1.toks) fun b ob q => Heap.get?_push_of_some _ q
  have ek : (kvs.map fun kv => kV kv.1) = vs.map fun p => kV p.1 := by
    have e := congrArg (List.map kV) kv.keys
    rw [List.map_map, List.map_map] at e
    exact e
  refine ⟨hdo.typeIs, hdo.mapOf.noDict, ?_⟩
  show wpAny _ _ (callWith cpos (.builtin "dict.keys") [.ref d] [] []) _ X.xe s1
  refine method_meetsIn F.slot_dict_keys F.entry_dict_keys rfl (PySem.evalArgs_none ⟨rfl, hdo.typeIs, F.args_dict_keys_1 _, _, PySem.W.kdl_meets_keys (mixKind X.prog X.w) d hs0, ⟨vs, hdo⟩, ?_⟩)
  refine Calls.spliced_nil ?_
  refine PySem.W.kdl_call (PySem.W.kdl_keys (knd := mixKind X.prog X.w) (kvs := vs) (ep := ep)) (I1.ok.hd hc) ⟨⟨_, Heap.get?_push_size _ rfl, rfl, rfl⟩, hat.push _⟩ (by rw [← lk]; exact hz) fun h' tk acc c' hk hD hacc => ?_
  have hv2 : Vals (vs.map fun p => kV p.1) acc.toList := keys_at (by rw [Array.length_toList]; exact hacc.1) fun j v e => hacc.2 j v (by rw [← Array.getElem?_toList]; exact e)
  refine ⟨.ref _, upd H1 _ (.lst (kvs.map fun kv => kV kv.1)), I2.laid (t' := tk) hk (Nat.le_refl _)
    (show ObjOk X.prog X.w _ _ _ (.lst (kvs.map fun kv => kV kv.1)) from ⟨by rw [List.length_map]; exact hz, acc.toList, c', by rw [ek]; exact hv2, by rw [Array.toArray_toList]; exact hD⟩), rfl, q _ (I2.hok.fresh (Nat.le_refl _))⟩
end
end Lk
namespace Lw
open PySem PySem.Spec PyProof.Rows L2
/-! one order of texts only -/
theorem rising_all : ∀ (r : List Str) (p : Str), risingS p r = true → (∀ y ∈ r, p.cps.toList ≤ y.cps.toList) ∧ sortedS r = true
  | [], _, _ => ⟨fun _ h => (List.not_mem_nil h).elim, rfl⟩
  | x :: r, p, h => by
    unfold risingS at h
    rw [Bool.and_eq_true, Bool.not_eq_true', ltCps_eq] at h
    have h1 : ¬ x.cps.toList < p.cps.toList := of_decide_eq_false h.1
    have h2 : p.cps.toList ≤ x.cps.toList := List.not_lt.mp h1
    refine ⟨fun y hy => ?_, h.2⟩
    rcases List.mem_cons.mp hy with rfl | hy
    · exact h2
    · exact List.le_trans h2 ((rising_all r x h.2).1 y hy)
theorem str_ext {a b : Str} (h : a.cps.toList = b.cps.toList) : a = b := by
  have := Array.toList_inj.mp h
  cases a
  cases b
  cases this
  rfl
theorem sorted_one : ∀ {xs ys : List Str}, sortedS xs = true → sortedS ys = true → xs.Perm ys → xs = ys
  | [], ys, _, _, p => by rw [List.nil_perm.mp p]
  | x :: xs, [], _, _, p => by cases List.perm_nil.mp p
  | x :: xs, y :: ys, hx, hy, p => by
    obtain ⟨a1, a2⟩ := rising_all xs x hx
    obtain ⟨b1, b2⟩ := rising_all ys y hy
    have e : x = y := by
      rcases List.mem_cons.mp (p.mem_iff.mp List.mem_cons_self) with e | e
      · exact e
      rcases List.mem_cons.mp (p.mem_iff.mpr (List.mem_cons_self (a := y))) with e2 | e2
      · exact e2.symm
      exact str_ext (List.le_antisymm (a1 y e2) (b1 x e))
    subst e
    rw [sorted_one a2 b2 (List.Perm.cons_inv p)]
end Lw

set_option Elab.async false
set_option linter.all false
set_option maxRecDepth 100000
set_option maxHeartbeats 0
namespace Hc
open PySem PySem.Spec PyProof.Rows L2
/-! a Hook: facts, defs wherever they stand, one Bool more -/
abbrev Al : Type := He.AlD × Bool
def obG (n : Nat) (fa : List He.Fa) (fn : List He5.DefA) (own : PySem.W.Frag → Bool) (g : Addr → Option Obj) : Al := (He5.obsAG n fa fn g, own (He.frG g (He5.asA g n)))
def Says (fa : List He.Fa) (fn : List He5.DefA) (own : PySem.W.Frag → Bool) (K : PySem.W.Frag) : Prop := He5.SaysA fa fn K ∧ own K = true
def hook (n : Nat) (fa : List He.Fa) (fn : List He5.DefA) (own : PySem.W.Frag → Bool) : PySem.W.Hook where
  α := Al
  obs := fun s => obG n fa fn own s.heap.get?
  val := fun _ => (He5.valA fn, true)
  says := fun _ h => ∃ K : PySem.W.Frag, K.In h ∧ Says fa fn own K
  of := fun _ _ e => ⟨_, He.frG_in, congrArg Prod.fst e, congrArg Prod.snd e⟩
  keeps := fun _ _ _ ⟨K, hK, c⟩ k => ⟨K, PySem.W.Frag.In.keeps hK k, c⟩
theorem obG_eq {n : Nat} {fa : List He.Fa} {fn : List He5.DefA} {own : PySem.W.Frag → Bool} {g : Addr → Option Obj} {s : Shared} (h : ∀ a, g a = s.heap.get? a) : obG n fa fn own g = (hook n fa fn own).obs s := by
  rw [show g = s.heap.get? from funext h] <;> rfl
theorem Says.fact {fa : List He.Fa} {fn : List He5.DefA} {own : PySem.W.Frag → Bool} {K : PySem.W.Frag} (c : Says fa fn own K) {f : He.Fa} (hf : f ∈ fa) : f.ok K = true := by
  obtain ⟨i, hi⟩ := List.getElem?_of_mem hf
  exact c.1.fact i hi
/-- a class's constants -/
def cvS (K : PySem.W.Frag) (C : Addr) (f z : Str) : Bool := match PySem.W.findCls K (.ref C) (.type "type") f with
  | some (.val (.str y _)) => decide (y = z)
  | _ => false
def cvI (K : PySem.W.Frag) (C : Addr) (f : Str) (i : Int) : Bool := match PySem.W.findCls K (.ref C) (.type "type") f with
  | some (.val (.int y _)) => decide (y = i)
  | _ => false
theorem cvS_ok {K : PySem.W.Frag} {C : Addr} {f z : Str} (h : cvS K C f z = true) : ∃ u, ClX.CVal K C (.type "type") f (.str z) u := by
  unfold cvS at h
  split at h
  · rename_i y t e
    exact ⟨_, e, t, by rw [of_decide_eq_true h]⟩
  · cases h
theorem cvI_ok {K : PySem.W.Frag} {C : Addr} {f : Str} {i : Int} (h : cvI K C f i = true) : ∃ u, ClX.CVal K C (.type "type") f (.int i) u := by
  unfold cvI at h
  split at h
  · rename_i y t e
    exact ⟨_, e, t, by rw [of_decide_eq_true h]⟩
  · cases h
def crB (K : PySem.W.Frag) (C : Addr) : Bool := PySem.W.readsIn K C (.type "type") && He.eqO (PySem.W.specialIn K (.ref C) "__getattribute__") (some (some (.builtin "type.__getattribute__")))
theorem crB_ok {K : PySem.W.Frag} {C : Addr} (h : crB K C = true) : ClX.CRead K C (.type "type") := ⟨(He.ba h).1, He.eqO_ok (He.ba h).2⟩
end Hc
namespace Lw
open PySem PySem.Spec PyProof.Rows L2
def dG (x : Str) (st : Stmt) : He5.DefA := ⟨fun K => He.ga K x, x, x, defArgs st, defBody st, defScope st, [], []⟩
def dM (C m q : Str) (st : Stmt) (kwd : List (Str × He.Dv) := []) : He5.DefA := ⟨fun K => He.ma K (He.ga K C) m, m, q, defArgs st, defBody st, defScope st, [], kwd⟩
end Lw

set_option Elab.async false
set_option linter.all false
set_option maxRecDepth 100000
set_option maxHeartbeats 4000000
namespace Lw
open PySem PySem.Spec PyProof.Rows L2
/-! an expression that may be read in two ways -/
theorem pe_or {X : Cx} {e : Expr} {t1 t2 : TE} (h1 : PE X e t1) (h2 : PE X e t2) : PE X e (fun σ H Q => t1 σ H Q ∨ t2 σ H Q) := ⟨fun pins s σ H Q I h => h.elim (h1.run pins s σ H Q I) (h2.run pins s σ H Q I)⟩
theorem kb1 {K : PySem.W.Frag} {x qual : Str} {params : Arguments} {body : List Stmt} {scope : Scope} {kws : List (Str × V)} {f : Addr} {fd : FuncData} {ps ks : List Str} {g : List Value → List Value} {gV : List V → List V} (F : FunD K x qual params body scope [] kws f fd) (hr : ∀ {zs us}, Vals zs us → Vals (gV zs) (g us))
    (h : ∀ (kV doc pm : Value) (an : Option Addr) (cdv ct : Value) (u : Value) (ws : List Value), ws.length = ks.length → bindArgs (PySem.W.fnOf x qual params body scope .none kV doc pm an cdv ct) ⟨[u], ks.zip ws⟩ = pure (ps.zip (u :: g ws))) : KBn K fd ps 1 ks (fun us ws => us ++ g ws) (fun vs zs => vs ++ gV zs) := by
  obtain ⟨oc, od, dV, kV, doc, pm, an, cdv, ct, osl, rfl, lk, hcd, hD, hK⟩ := F.ex
  rcases hD with ⟨_, rfl⟩ | ⟨e, _⟩
  · exact ⟨fun s us ws _ l1 l2 => by
      match us, l1 with
      | [u], _ => exact .of_eq (h kV doc pm an cdv ct u ws l2), fun r q => r.append (hr q)⟩
  · exact absurd rfl e
/-! properties of the text's classes -/
def propB (K : PySem.W.Frag) (C : Addr) (m : Str) : Bool := He.eqO (PySem.W.findIn K (.ref C) m) (some (some (.ref (He.ma K C m)))) && (He.eqO (PySem.W.specialIn K (.ref (He.ma K C m)) "__get__") (some (some (.builtin "property.__get__"))) &&
  (decide (PySem.W.takesIn K (.ref (He.ma K C m)) = some true) && (match PySem.W.recIn K (He.ma K C m) "property" with
    | some (.ref _ :: _) => true
    | _ => false)))
theorem propB_ok {K : PySem.W.Frag} {C : Addr} {m : Str} (h : propB K C m = true) : PropOf K C m (He.ma K C m) (He5.wf K C "property" m) := by
  obtain ⟨h1, h⟩ := He.ba h
  obtain ⟨h2, h⟩ := He.ba h
  obtain ⟨h3, h4⟩ := He.ba h
  refine ⟨He.eqO_ok h1, He.eqO_ok h2, of_decide_eq_true h3, ?_⟩
  unfold He5.wf
  split at h4
  · rename_i f r e
    rw [e]
    exact ⟨r, rfl⟩
  · cases h4
def conB (K : PySem.W.Frag) (C : Addr) (f z : Str) : Bool := match PySem.W.findIn K (.ref C) f with
  | some (some (.str y t)) => decide (y = z) && He.eqO (PySem.W.specialIn K (.str y t) "__get__") (some none)
  | _ => false
theorem conB_ok {K : PySem.W.Frag} {C : Addr} {f z : Str} (h : conB K C f z = true) (hc : PySem.W.copiedNames.contains f = false) : ∃ u, Con K C f (.str z) u := by
  unfold conB at h
  split at h
  · rename_i y t e
    obtain ⟨h1, h2⟩ := He.ba h
    have e1 := of_decide_eq_true h1
    subst e1
    exact ⟨_, e, ⟨_, rfl⟩, He.eqO_ok h2, hc⟩
  · cases h
def dP (C m q : Str) (st : Stmt) : He5.DefA := ⟨fun K => He5.wf K (He.ga K C) "property" m, m, q, defArgs st, defBody st, defScope st, [], []⟩
/-! cells: names with integers or None -/
def IntN (v : V) : Prop := (∃ i : Int, v = .int i) ∨ v = .non
def RowOk (kvs : List (Key × V)) : Prop := (∃ ks : List Str, kvs.map (·.1) = ks.map Sum.inr ∧ ks.Nodup ∧ ∀ z ∈ ks, IsWord z) ∧ (∀ p ∈ kvs, IntN p.2) ∧ kvs.length ≤ 60
theorem IntN.flat {v : V} (h : IntN v) : flatB v = true := by
  rcases h with ⟨i, rfl⟩ | rfl <;> rfl
theorem RowOk.nodup {kvs : List (Key × V)} (h : RowOk kvs) : (kvs.map (·.1)).Nodup := by
  obtain ⟨⟨ks, e, n, _⟩, _⟩ := h
  rw [e]
  exact List.Pairwise.map _ (fun a b ne q => ne (Sum.inr.inj q)) n
theorem valV_mem : ∀ {kvs : List (Key × V)}, (kvs.map (·.1)).Nodup → ∀ p ∈ kvs, valV kvs p.1 = some p.2
  | [], _, _, h => by cases h
  | (k, v) :: r, n, p, h => by
    rw [List.map_cons, List.nodup_cons] at n
    rcases List.mem_cons.mp h with rfl | h
    · show valV ((k, v) :: r) k = some v
      unfold valV
      simp
    · have ne : p.1 ≠ k := fun e => n.1 (by rw [← e]; exact List.mem_map.mpr ⟨p, h, rfl⟩)
      have ih := valV_mem n.2 p h
      have hd : decide (k = p.1) = false := decide_eq_false fun e => ne e.symm
      show ((List.find? (fun kv => decide (kv.1 = p.1)) ((k, v) :: r)).map (·.2)) = some p.2
      rw [List.find?_cons]
      simp only [hd]
      exact ih
theorem depth_strs : ∀ ks : List Str, PyData.depthAll (ks.map PyData.str) = 0
  | [] => rfl
  | z :: r => by
    show max (PyData.depth (.str z)) (PyData.depthAll (r.map PyData.str)) = 0
    rw [depth_strs r]
    rfl
theorem canLay_strs : ∀ ks : List Str, (∀ z ∈ ks, IsWord z) → PyData.canLayAll0 (ks.map PyData.str) = true
  | [], _ => rfl
  | z :: r, h => by
    show (PyData.canLay0 (.str z) && PyData.canLayAll0 (r.map PyData.str)) = true
    rw [canLay_strs r fun y hy => h y (List.mem_cons_of_mem _ hy)]
    have h3 : PyData.canLay0 (.str z) = true := by
      show z.cps.all (· < 0x110000) = true
      rw [← Array.all_toList, List.all_eq_true]
      intro c hc
      have := (h z List.mem_cons_self).2.2 c hc
      exact decide_eq_true (by omega)
    rw [h3]
    rfl
theorem shaped_strs (ks : List Str) (h : ∀ z ∈ ks, IsWord z) : SeqAt.shaped (.list (ks.map PyData.str)) = true := by
  have e1 : PyData.canLay0 (.list (ks.map PyData.str)) = true := canLay_strs ks h
  have e2 : PyData.depth (.list (ks.map PyData.str)) ≤ 64 := by
    have e3 := depth_strs ks
    simp only [PyData.depth, e3]
    decide
  unfold SeqAt.shaped
  rw [e1, decide_eq_true e2]
  rfl
theorem eqv_strs {ks : List Str} (h : ∀ z ∈ ks, IsWord z) : PyData.eqv (.list (ks.map PyData.str)) (.list (ks.map PyData.str)) = true := PySem.SeqAt.eqv_refl _ (canLay_strs ks h)
theorem scalN {v : V} (h : IntN v) : scal v v = true := by
  rcases h with ⟨i, rfl⟩ | rfl <;> rfl
theorem src_ne_strs {H : Hp} {a l : Addr} {n : Nat} {ws : List Str} (hs : Src H a n) (hl : H l = some (.lst (ws.map V.str))) : l ≠ a := fun z => by
  obtain ⟨_, _, _, h, _⟩ := hs
  subst z
  rw [hl] at h
  have e := HO.lst.inj (Option.some.inj h)
  cases ws with
  | nil => cases e
  | cons z r => cases e
theorem str_it {a b : Str} {A B : Prop} (h1 : a = b → A) (h2 : a ≠ b → B) : if decide (V.str a = V.str b) = true then A else B := by
  by_cases e : a = b
  · rw [if_pos (by rw [decide_eq_true_eq, e])]; exact h1 e
  · rw [if_neg (by rw [decide_eq_true_eq]; exact fun z => e (V.str.inj z))]; exact h2 e
theorem dec_str {a b : Str} : decide (V.str a = V.str b) = decide (a = b) := by
  by_cases e : a = b
  · rw [decide_eq_true e, decide_eq_true (by rw [e])]
  · rw [decide_eq_false e, decide_eq_false fun z => e (V.str.inj z)]
/-- both branches come to R -/
theorem sq_ifj {c : TT} {t1 t2 u : TS} {D : Ends} {σ : L2.St} {H : Hp} (P : Bool → Hp → Prop) (R : Hp → Prop) (h : ∀ Q : Bool → Hp → Prop, (∀ b H', P b H' → Q b H') → c σ H Q) (kt : ∀ H', P true H' → ∀ D' : Ends, (∀ G, R G → D'.nx σ G) → t1 D' σ H') (kf : ∀ H', P false H' → ∀ D' : Ends, (∀ G, R G → D'.nx σ G) → t2 D' σ H')
    (k : ∀ G, R G → u D σ G) : tSeq (tIfS c t1 t2) u D σ H :=
  h _ fun b H' p => by
    cases b with
    | true => rw [if_pos rfl]; exact kt H' p _ k
    | false => rw [if_neg Bool.false_ne_true]; exact kf H' p _ k
theorem s1_do {te : TE} {D : Ends} {σ : L2.St} {H : Hp} (P : V → Hp → Prop) (h : ∀ Q : VK, (∀ x H', P x H' → Q x H') → te σ H Q) (k : ∀ x H', P x H' → D.nx σ H') : (tDrop te) D σ H := h _ k
theorem putK_new {kvs : List (Key × V)} {k : Key} {v : V} (h : k ∉ kvs.map (·.1)) : putK kvs k v = kvs ++ [(k, v)] := by
  unfold putK
  rw [if_neg]
  intro e
  obtain ⟨p, hp, e2⟩ := List.any_eq_true.mp e
  exact h (List.mem_map.mpr ⟨p, hp, of_decide_eq_true e2⟩)
theorem RowOk.snoc {kvs : List (Key × V)} {z : Str} {v : V} (h : RowOk kvs) (n : (Sum.inr z : Key) ∉ kvs.map (·.1)) (hz : IsWord z) (hv : IntN v) (l : kvs.length < 60) : RowOk (kvs ++ [(.inr z, v)]) := by
  obtain ⟨⟨ks, e, nd, w⟩, i, _⟩ := h
  refine ⟨⟨ks ++ [z], by rw [List.map_append, List.map_append, e]; rfl, ?_, fun y hy => ?_⟩, fun p hp => ?_, by rw [List.length_append]; show kvs.length + 1 ≤ 60; omega⟩
  · refine List.nodup_append.mpr ⟨nd, by simp, fun x hx y hy => ?_⟩
    rw [List.mem_singleton.mp hy]
    rintro rfl
    exact n (by rw [e]; exact List.mem_map.mpr ⟨x, hx, rfl⟩)
  · rcases List.mem_append.mp hy with m | m
    · exact w y m
    · rw [List.mem_singleton.mp m]; exact hz
  · rcases List.mem_append.mp hp with m | m
    · exact i p m
    · rw [List.mem_singleton.mp m]; exact hv
theorem RowOk.nil : RowOk [] := ⟨⟨[], rfl, List.nodup_nil, fun _ h => (List.not_mem_nil h).elim⟩, fun _ h => (List.not_mem_nil h).elim, Nat.zero_le _⟩
theorem mergeK_new : ∀ (more kvs : List (Key × V)), ((kvs ++ more).map (·.1)).Nodup → mergeK kvs more = kvs ++ more
  | [], kvs, _ => by rw [List.append_nil]; rfl
  | p :: r, kvs, h => by
    have h2 : ((kvs ++ [p]) ++ r) = kvs ++ p :: r := by simp
    have n : p.1 ∉ kvs.map (·.1) := fun m => by
      rw [List.map_append, List.map_cons] at h
      exact (List.nodup_append.mp h).2.2 p.1 m p.1 List.mem_cons_self rfl
    show mergeK (putK kvs p.1 p.2) r = _
    rw [putK_new n, ← h2]
    exact mergeK_new r (kvs ++ [p]) (by rw [h2]; exact h)
theorem RowOk.rev {kvs : List (Key × V)} (h : RowOk kvs) : RowOk kvs.reverse := by
  obtain ⟨⟨ks, e, n, w⟩, i, l⟩ := h
  refine ⟨⟨ks.reverse, by rw [List.map_reverse, e, List.map_reverse], List.Perm.nodup (List.reverse_perm ks).symm n, fun z hz => w z (List.mem_reverse.mp hz)⟩, fun p hp => i p (List.mem_reverse.mp hp), by rw [List.length_reverse]; exact l⟩
end Lw

set_option Elab.async false
set_option linter.all false
set_option maxRecDepth 100000
set_option maxHeartbeats 2000000
namespace Mk
open PySem PySem.Spec PyProof.Rows L2
/-! o.m(e, .., k = v, ..): some by place, the others by name -/
section
variable {X : Cx} {CX : CXT} {k n : Nat} {C f : Addr} {fd : FuncData} {ps ks : List PySem.Str} {sp : Sp} {E : XK} {o e : Expr} {es : List Expr} {kws : List Keyword} {m : PySem.Str} {pos apos : Pos} {ta : TE} {t tk : TA} {pl : Sem Bool} {g : List Value → List Value → List Value} {gV : List V → List V → List V}
def tMethK (C : Addr) (m : PySem.Str) (n l : Nat) (sp : Sp) (gV : List V → List V → List V) (E : XK) (ta : TE) (t tk : TA) : TE := fun σ H Q => ta σ H fun x G => ∃ (a dx : Addr) (fs : List (PySem.Str × V)), x = .ref a ∧ G a = some (.ins C dx fs) ∧ fs.lookup m = none ∧ t σ G fun ys G1 => ys.length + 1 = n ∧ tk σ G1 fun zs G2 => zs.length = l ∧ sp (gV (.ref a :: ys) zs) G2 Q E
theorem pe_methK (he : PE X o ta) (c : Cls X.K C) (hm : Meth X.K C m f) (F : FnOk X.prog X.w X.K X.mg X.base CX k f fd ps sp) (hr : Room k X.A) (hb : KBn X.K fd ps n ks g gV) (hx : Passes CX X E) (ha : PA X (e :: es) t) (hkw : PK X kws tk)
    (hall : (backToKw pos (keywordEach kws X.env)).all (·.1.isSome) = true := by rfl) (hks : (backToKw pos (keywordEach kws X.env)).filterMap (·.1) = ks := by rfl)
    (hpl : ((backTo pos (starEach (e :: es) X.env)).any (·.1) || (backToKw pos (keywordEach kws X.env)).any (·.1.isNone)) = false := by rfl) (hs : starEach (e :: es) X.env = (false, eval e X.env) :: starEach es X.env := by rfl)
    (ht : eval (.Call (.Attribute o m apos) (e :: es) kws pos) X.env = (do
      let a ← eval o X.env
      standAt apos.atName
      let (f, first) ← holding [a] (getMethod a m pl)
      callWith pos f first (backTo pos (starEach (e :: es) X.env)) (backToKw pos (keywordEach kws X.env))) := by rfl) :
    PE X (.Call (.Attribute o m apos) (e :: es) kws pos) (tMethK C m n ks.length sp gV E ta t tk) := by
  constructor
  intro pins s σ H Q I h
  refine PySem.W.methodCall_KW (pl := pl) (thn (he.run pins s σ H _ I h) ?_) ht
  rintro u s1 ⟨x, G, I1, rx, a, dx, fs, rfl, ea, l, q⟩
  obtain rfl : u = Value.ref a := rx
  refine getmeth_ok I1 ea c hm l ?_
  refine PySem.W.callWith_KW (first := [.ref a]) (h₀ := X.base) I1.ok.mod.kin hm.kp hall (thn (ha.run pos pins s1 σ G _ I1 q) ?_) hpl hs
  rintro us s2 ⟨ys, G1, I2, ry, l1, q1⟩
  refine thn (hkw.run pos pins s2 σ G1 _ I2 q1) ?_
  rintro ws s3 ⟨zs, G2, I3, rz, l2, q2⟩
  refine ⟨I3.kIn, ?_⟩
  rw [hks]
  have all : Vals (V.ref a :: ys) (Value.ref a :: us) := .cons (show RelV (.ref a) (Value.ref a) from rfl) ry
  have r2 := hb.rel all rz
  have bt := hb.to s3 (Value.ref a :: us) ws I3.kIn (by rw [List.length_cons, ← ry.length]; exact l1) (rz.length.symm.trans l2)
  refine wpAny_call (codeAny_mono (F.run X.A X.stack s3 G2 ⟨Value.ref a :: us, ks.zip ws⟩ (g (Value.ref a :: us) ws) (gV (V.ref a :: ys) zs) Q E hr I3.env0 bt r2 q2) ?_)
  intro r s' hq
  match r, hq with
  | .error e, hq => exact hx pins σ G2 s3 e s' I3 hq
  | .ok (.ret u), hq => exact I3.after hq
  | .ok .next, hq => exact hq.elim
  | .ok .brk, hq => exact hq.elim
  | .ok .cont, hq => exact hq.elim
/-- what is never reached -/
theorem ps_nev {X : Cx} {st : Stmt} : PS X st (fun _ _ _ => False) := ⟨fun _ _ _ _ _ _ h => h.elim⟩
end
end Mk

set_option Elab.async false
set_option linter.all false
set_option maxRecDepth 100000
set_option maxHeartbeats 4000000
namespace Iw
open PySem PySem.Spec PyProof.Rows L2 PySem.SeqAt
/-! any plain value in a list or a tuple of texts -/
section
variable {A : Around} {s : Shared}
theorem str_no {z : Str} {u : Tok} {d : Addr} {es : Array DictEntry} {ep : Nat} {dd : Option Addr} {sl : Array (Option Value)} : Meets (Builtin.«str.__eq__» ⟨[.str z u, .ref d], []⟩) (fun _ R s => s.heap.get? d = some ⟨.type "dict", dd, .dict es ep, sl⟩ ∧ R (.ok (.ret .notImplemented)) s) :=
  .of_wp fun prog w A R s h => by
    obtain ⟨hp, g, dr, tk, os⟩ := s
    obtain ⟨there, h⟩ := h
    have no := F.sub_dict_str
    wp_walk using wpAny_loadPart' there, wpAny_load there
    exact ⟨_, rfl, h⟩
theorem dict_no {z : Str} {u : Tok} {d : Addr} {es : Array DictEntry} {ep : Nat} {dd : Option Addr} {sl : Array (Option Value)} : Meets (Builtin.«dict.__eq__» ⟨[.ref d, .str z u], []⟩) (fun _ R s => s.heap.get? d = some ⟨.type "dict", dd, .dict es ep, sl⟩ ∧ R (.ok (.ret .notImplemented)) s) :=
  .of_wp fun prog w A R s h => by
    obtain ⟨hp, g, dr, tk, os⟩ := s
    obtain ⟨there, h⟩ := h
    have no := F.sub_str_dict
    wp_walk using wpAny_loadPart' there, wpAny_load there
    exact ⟨_, rfl, h⟩
theorem str_dict {z : Str} {u : Tok} {d : Addr} {es : Array DictEntry} {ep : Nat} {dd : Option Addr} {sl : Array (Option Value)} (there : s.heap.get? d = some ⟨.type "dict", dd, .dict es ep, sl⟩) (room : A.units < cLine) : EqAt A s (.str z u) (.ref d) false := fun prog w E Q h => by
  unfold eqBool
  refine wpAny_holding (wpAny_ite_split (fun e => absurd (eq_of_beq e) nofun) fun _ => wpAny_bind ?_)
  exact rc_eq_decline_or (k := false) (typeIs_str s z u) ⟨_, there, rfl⟩ (by decide) F.sub_dict_str F.slot_str_eq F.slot_dict_eq_refl
    (fun _ q => call_meets F.slot_str_eq (typeIs_str s z u) F.entry_str_eq (F.args_str_eq_2 _ _) str_no ⟨there, q⟩)
    (fun _ q => call_meets F.slot_dict_eq_refl ⟨_, there, rfl⟩ F.entry_dict_eq (F.args_dict_eq_2 _ _) dict_no ⟨there, q⟩)
    (fun _ q => wpAny_of_eq (rfl : isSame (.str z u) (.ref d) = pure false) q) (.inr room) (wpAny_truthy_bool h)
end
end Iw
namespace Iw
open PySem PySem.Spec PyProof.Rows L2 PySem.SeqAt
section
variable {X : Cx}
/-- a list, a tuple, a dict -/
inductive Box (H : Hp) (a : Addr) : Prop where
  | lst {xs : List V} (h : H a = some (.lst xs)) : Box H a
  | tup {xs : List V} (h : H a = some (.tup xs)) : Box H a
  | dic {kvs : List (Key × V)} (h : H a = some (.dK kvs)) : Box H a
def rInW (K : PySem.W.Frag) (neg : Bool) : R2 := fun x y H Q => ∃ (p : Addr) (ts : List Str), y = .ref p ∧ (SqL K H p (ts.map V.str) ∨ SqT K H p (ts.map V.str)) ∧
  ((flatV x = true ∧ Q (.bl (if neg then !inV x (ts.map V.str) else inV x (ts.map V.str))) H) ∨ (∃ a, x = .ref a ∧ Box H a ∧ Q (.bl neg) H))
theorem box_eq {pins : List (Addr × Obj)} {σ : L2.St} {H : Hp} {s : Shared} (I : Inv X pins σ H s) {B : Around} (room : B.units < cLine) {a : Addr} (b : Box H a) (z : Str) (u : Tok) : EqAt B s (.str z u) (.ref a) false := by
  cases b with
  | lst h =>
    obtain ⟨its, rv, pl, hz⟩ := I.list (SqL.of h)
    exact EqAt.str_list z u pl.isList room
  | tup h =>
    obtain ⟨its, rv, pt, hz⟩ := I.tuple (SqT.of h)
    exact EqAt.str_tuple z u pt room
  | dic h =>
    obtain ⟨hz, hs0, vs, kv, o, es, ep, there, ex, da, _⟩ := I.hok a _ h
    obtain ⟨c, dd, d0, sl⟩ := o
    obtain ⟨e1, e2, e3⟩ := ex
    simp only at e1 da
    subst e1 da
    exact str_dict there room
theorem texts_no {pins : List (Addr × Obj)} {σ : L2.St} {H : Hp} {s : Shared} (I : Inv X pins σ H s) {B : Around} (room : B.units < cLine) {a : Addr} (b : Box H a) : ∀ {ts : List Str} {us : List Value}, Vals (ts.map V.str) us → ∀ v ∈ us, EqAt B s v (.ref a) ((fun _ => false) v)
  | [], _, .nil => fun v hv => by cases hv
  | z :: ts, u :: us, .cons r t => fun v hv => by
    rcases List.mem_cons.mp hv with rfl | hv
    · obtain ⟨k, rfl⟩ := r
      exact box_eq I room b z k
    · exact texts_no I room b t v hv
theorem op_inW (hu : X.A.units + 64 < cLine) : OpR X (compareOp .In) (rInW X.K false) := by
  intro pins s σ H x y v u Q I rx ry ⟨p, ts, e, hq, h⟩
  rcases h with ⟨fx, q⟩ | ⟨a, rfl, b, q⟩
  · exact op_in_seq pins s σ H x y v u Q I rx ry ⟨p, _, e, hq, fx, Lw.flat_strs ts, q⟩
  · subst e
    cases ry
    cases rx
    rcases hq with hq | hq
    · obtain ⟨its, r, pl, hz⟩ := I.list hq
      refine SeqAt.in_listAt (fun _ => false) pl.isList (fun w hw => texts_no I (by show X.A.units + 1 < cLine; omega) b r w (by simpa using hw)) ⟨.bl _, H, I, rfl, ?_⟩
      rw [show its.toArray.any (fun _ => false) = false by simp]
      exact q
    · obtain ⟨its, r, pl, hz⟩ := I.tuple hq
      refine SeqAt.in_tupleAt (fun _ => false) pl (fun w hw => texts_no I (by show X.A.units + 1 < cLine; omega) b r w (by simpa using hw)) ⟨.bl _, H, I, rfl, ?_⟩
      rw [show its.toArray.any (fun _ => false) = false by simp]
      exact q
theorem op_notInW (hu : X.A.units + 64 < cLine) : OpR X (compareOp .NotIn) (rInW X.K true) := by
  intro pins s σ H x y v u Q I rx ry ⟨p, ts, e, hq, h⟩
  rcases h with ⟨fx, q⟩ | ⟨a, rfl, b, q⟩
  · exact op_notIn_seq pins s σ H x y v u Q I rx ry ⟨p, _, e, hq, fx, Lw.flat_strs ts, q⟩
  · subst e
    cases ry
    cases rx
    rcases hq with hq | hq
    · obtain ⟨its, r, pl, hz⟩ := I.list hq
      refine SeqAt.notIn_listAt (fun _ => false) pl.isList (fun w hw => texts_no I (by show X.A.units + 1 < cLine; omega) b r w (by simpa using hw)) ⟨.bl _, H, I, rfl, ?_⟩
      rw [show its.toArray.any (fun _ => false) = false by simp]
      exact q
    · obtain ⟨its, r, pl, hz⟩ := I.tuple hq
      refine SeqAt.notIn_tupleAt (fun _ => false) pl (fun w hw => texts_no I (by show X.A.units + 1 < cLine; omega) b r w (by simpa using hw)) ⟨.bl _, H, I, rfl, ?_⟩
      rw [show its.toArray.any (fun _ => false) = false by simp]
      exact q
end
end Iw

set_option Elab.async false
set_option linter.all false
set_option maxRecDepth 100000
set_option maxHeartbeats 1000000
namespace Kd
open PySem PySem.Spec PyProof.Rows L2
/-! for x in D, D a dict of the module's own top with texts as keys -/
structure KyD (K : PySem.W.Frag) (w : World) (d : Addr) (zs : List Str) : Prop where
  ex : ∃ es n, KDict K w d es n ∧ es.size = zs.length ∧ ∀ (i : Nat) (e : DictEntry), es[i]? = some e → ∃ z t, zs[i]? = some z ∧ e.key = .str z t
def Itc (zs : List Str) : It := ⟨fun i _ => i < zs.length, fun i G x G2 => G2 = G ∧ ∃ z, zs[i]? = some z ∧ x = .str z, fun i _ => zs.length ≤ i⟩
def iKd (d : Addr) (zs : List Str) (td : TE) : TI := fun σ G R => td σ G fun x G1 => x = .ref d ∧ R (Itc zs) G1
section
variable {PR : Program} {wo : World} {KF : PySem.W.Frag} {tt : Expr} {dd : Addr} {zs : List Str} {es : Array DictEntry} {n : Nat}
theorem turn_kd (ir : Addr) (D : KDict KF wo dd es n) (hz : es.size = zs.length) (hk : ∀ (i : Nat) (e : DictEntry), es[i]? = some e → ∃ z t, zs[i]? = some z ∧ e.key = .str z t) :
    Turn PR wo KF tt (Itc zs) [ir] ir (fun i hp => hp.IsKeyIter ir dd i zs.length n) where
  mem := List.mem_singleton.mpr rfl
  obj := fun i hp q b mb => by
    rw [List.mem_singleton.mp mb]
    obtain ⟨ob, e1, e2, e3⟩ := q
    exact ⟨ob, e1, fun v y => by rw [e3] at y; cases y⟩
  keep := fun i h1 h2 q kp => q.at fun ob e1 => kp ir (List.mem_singleton.mpr rfl) ob e1
  item := by
    intro X e1 e2 e3 cm i ps s σ G EX I fo st go
    subst e1 e2 e3
    have gi : i < es.size := by rw [hz]; exact go
    obtain ⟨a0, a1, a2, a3, a4, a5⟩ := fo ir (List.mem_singleton.mpr rfl)
    have he : es[i]? = some es[i] := Array.getElem?_eq_getElem gi
    obtain ⟨z, t, q1, q2⟩ := hk i _ he
    refine next_key_item st (I.kIn _ _ D.at_) rfl hz he fun h' st' sb => ?_
    have J : Inv X ps σ G { s with heap := h' } := I.turned (t' := s.toks) (fun b ob mb e => (sb.2 b mb).trans e) a0 a1 a3 a4 a5
    obtain ⟨ob, b1, b2, b3⟩ := id st'
    refine ⟨es[i].key, rfl, ?_⟩
    exact go_of (s := { s with heap := h' }) b1 b2 b3 (by decide) ⟨.str z, G, J, ⟨t, q2⟩, ⟨rfl, z, q1, rfl⟩, st', fun b mb => (fo b mb).1⟩
  done := by
    intro X e1 e2 e3 cm i ps s σ G EX I fo st go
    subst e1 e2 e3
    obtain ⟨a0, a1, a2, a3, a4, a5⟩ := fo ir (List.mem_singleton.mpr rfl)
    exact next_key_end (I.ok.hd cm) st (I.kIn _ _ D.at_) rfl hz go fun h' eb => ⟨rfl, I.turned (t' := s.toks) (fun b ob mb e => eb b ob mb e) a0 a1 a3 a4 a5⟩
  self := fun A i s Q E st go => wpAny_pyIter_keyiter st go
end
theorem pi_kd {X : Cx} {tg e : Expr} {td : TE} {d : Addr} {zs : List Str} (D : KyD X.K X.w d zs) (he : PE X e td) : PI X tg e (iKd d zs td) := by
  obtain ⟨es, n, KD, hz, hk⟩ := D.ex
  refine ⟨fun ps s σ G R I h => ?_⟩
  refine thn (he.run ps s σ G _ I h) fun u s1 ⟨x, G1, I1, rx, ex, q⟩ => ?_
  subst ex
  obtain rfl : u = Value.ref d := rx
  refine iter_keys KD.low (I1.kIn _ _ KD.at_) ⟨rfl, rfl, rfl⟩ rfl ?_
  exact pi_one (tk := s1.toks) I1 _ (turn_kd _ KD hz hk) ⟨_, Heap.get?_push_size _ rfl, rfl, by rw [hz] <;> rfl⟩ q
theorem walk_kd {zs : List Str} : Walk (Itc zs) zs.length (fun _ => True) (fun i G x G2 => G2 = G ∧ ∃ z, zs[i]? = some z ∧ x = .str z) :=
  ⟨fun _ _ h _ => h, fun _ _ => Nat.le_refl _, fun _ _ _ _ _ _ y => y⟩
end Kd

set_option Elab.async false
set_option linter.all false
set_option maxRecDepth 100000
set_option maxHeartbeats 4000000
namespace PySem
namespace Ge
open Builtin Builtin.ObjectAttr
/-! own errors under any base: own classes, then the base's row -/
def tailB (tl : List Value) : List Value → Bool
  | .ref _ :: r => tailB tl r
  | l => l == tl
theorem tail_cut {tl : List Value} : ∀ l : List Value, tailB tl l = true → ∃ cs : List Addr, l = cs.map Value.ref ++ tl
  | [], h => ⟨[], beq_iff_eq.mp h⟩
  | v :: r, h => by
    match v, h with
    | .ref c, h =>
      obtain ⟨cs, e⟩ := tail_cut (tl := tl) r h
      exact ⟨c :: cs, by rw [e]; rfl⟩
    | .none, h | .ellipsis, h | .notImplemented, h | .bool _, h | .int _ _, h | .float _ _, h | .str _ _, h | .bytes _ _, h | .type _, h | .builtin _, h => exact ⟨[], beq_iff_eq.mp h⟩
/-- what a base's row must do -/
structure Tl (tl : List Value) : Prop where
  pass : ∀ self : Value, refuseLoop self "__setattr__" tl = pure ()
  obj : tl.contains (.type "object") = true
theorem row_contains {tl l : List Value} (h : tailB tl l = true) (T : String) : l.contains (.type T) = tl.contains (.type T) := by
  obtain ⟨cs, rfl⟩ := tail_cut l h
  induction cs with
  | nil => rfl
  | cons c cs ih =>
    rw [List.map_cons, List.cons_append, List.contains_cons, ih (by
      have h' : tailB tl (Value.ref c :: (cs.map Value.ref ++ tl)) = true := h
      exact h')]
    rfl
theorem row_pass {tl l : List Value} (t : Tl tl) (self : Value) (h : tailB tl l = true) : refuseLoop self "__setattr__" l = pure () := by
  obtain ⟨cs, rfl⟩ := tail_cut l h
  clear h
  induction cs with
  | nil => exact t.pass self
  | cons c cs ih =>
    show refuseLoop self "__setattr__" (Value.ref c :: (cs.map Value.ref ++ tl)) = _
    rw [refuseLoop_ref]
    exact ih
theorem row_some {tl l : List Value} (t : Tl tl) (h : tailB tl l = true) : l.isEmpty = false := by
  cases l with
  | nil =>
    have e : ([] : List Value) = tl := beq_iff_eq.mp h
    have o := t.obj
    rw [← e] at o
    cases o
  | cons _ _ => rfl
section
variable {prog : Program} {w : World} {A : Around} {R : Result → Shared → Prop} {hp : Heap} {g : Array GenState} {d : Drawn} {t : Nat} {os : OsState}
/-- object.__setattr__ on an error that has no dict yet -/
theorem first_field {tl : List Value} (T : Tl tl) {K : W.Frag} {name : Str} {tk : Tok} {v : Value} {x C : Addr} {fv : Array Value} {cd : ClassData} (KI : K.In hp) (here : hp.get? x = some { cls := .ref C, data := .fields fv }) (cls : W.clsIn K C = some cd)
    (row : tailB tl cd.mro = true) (dict : cd.hasDict = true) (no : W.findIn K (.ref C) name = some none)
    (out : ∀ h' tk' dx, (∀ b o, b ≠ x → hp.get? b = some o → h'.get? b = some o) → hp.objs.size ≤ dx → dx ≠ x → h'.get? x = some { cls := .ref C, dict := some dx, data := .fields fv } → h'.Ns1 dx (fun y => if y = name then some v else none) →
      R (.ok (.ret .none)) ⟨h', g, d, tk', os⟩) : codeAny (model prog w) A (.call (.builtin "object.__setattr__") ⟨[.ref x, .str name tk, v], []⟩) R ⟨hp, g, d, t, os⟩ := by
  have at_ : W.InstAt hp x { cls := .ref C, data := .fields fv } C none := ⟨here, rfl, rfl, trivial⟩
  have facts := F.store_object
  have some_ := row_some T row
  have below : cd.mro.contains (.type "object") = true := by rw [row_contains row "object"]; exact T.obj
  have apart : x ≠ hp.objs.size := Nat.ne_of_lt (Heap.lt_size here)
  have mem : W.mroIn K C (.type "object") = some true := by
    unfold W.mroIn
    rw [cls, Option.bind_some, if_neg (by rw [some_]; decide), below]
  have isObj : W.Looks (model prog w) hp (isInstance (.ref x) (.type "object")) true := at_.type.andThen (W.looks_mroIn KI mem)
  refine codeAny_call_builtin facts.slot.plain facts.entry ?_
  refine @W.check_slot (model prog w) _ _ ⟨hp, g, d, t, os⟩ "object.__setattr__" "object" "__setattr__" (.ref x) [.str name tk, v] [] _ facts.kind facts.split isObj (facts.args (.ref x) (.str name tk) v) ?_
  have rowL : W.Looks (model prog w) hp (mroOf (.ref C)) cd.mro := (W.looks_clsIn KI cls).andThen .now
  have taker : W.Looks (model prog w) hp (storeTaker? none) none := .now
  have dataL : W.Looks (model prog w) hp (classData C) cd := W.looks_clsIn KI cls
  rw [W.osa_eq, refuse_eq]
  refine wpAny_bind (wpAny_bind (at_.type.at (wpAny_bind (rowL.at ?_))))
  rw [row_pass T _ row]
  refine wpAny_pure (wpAny_bind (at_.type.at (wpAny_bind ((W.looks_findIn KI no).at (wpAny_bind (taker.at ?_))))))
  show wpAny _ _ (storeInOwnDict (.ref x) (.ref C) (.str name tk) name v false) _ _ _
  obtain ⟨c1, c2, c3, c4, c5, c6, c7, c8, c9, c10, c11⟩ := cd
  cases (show c6 = true from dict)
  unfold storeInOwnDict
  unfold ownDictForStores
  repeat (first | with_reducible refine HandSPX.store_in_new ?_ ?_ | with_reducible refine wpAny_loadPart_at here ?_ | with_reducible refine dataL.at ?_ | wp_step)
  · exact ⟨_, #[], _, (Heap.get?_update_ne _ _ _ _ apart.symm).trans (Heap.get?_push_at rfl rfl), rfl, fun e he => absurd he (by simp), fun _ => rfl⟩
  · intro h' tk' ns same
    have here2 : (hp.push { cls := .type "dict", data := .dict #[] }).get? x = some { cls := .ref C, data := .fields fv } := Heap.get?_push_of_some _ here
    apply out h' tk' hp.objs.size _ (Nat.le_refl _) apart.symm _ ns
    · intro b o n q
      have n2 : b ≠ hp.objs.size := Nat.ne_of_lt (Heap.lt_size q)
      rw [same.2 b n2, Heap.get?_update_ne _ _ _ _ n]
      exact Heap.get?_push_of_some _ q
    · rw [same.2 x apart]
      exact Heap.get?_update_self _ here2 rfl
end
end Ge
end PySem
namespace Ge
open PySem PySem.Spec PyProof.Rows L2
/-- an own error class with an own __init__, over any base -/
structure OexT (K : PySem.W.Frag) (C : Addr) (tl : List Value) (newId : String) : Prop where
  base : PySem.Ge.Tl tl
  cls : ∃ nm q N bs bm sn sub ab col dd k0 k1 k2 k3 k5, K.lookup C = some (excClassObj nm q C N bs bm true sn sub ab col dd k0 k1 k2 k3 k5 newId) ∧ PySem.Ge.tailB tl bm = true
  sa : PySem.W.findIn K (.ref C) "__setattr__" = some (some (.builtin "object.__setattr__"))
  exC : PySem.W.subIn K (.ref C) (.type "BaseException") = some true
  tyC : PySem.W.typeIn K (.ref C) = some (.type "type")
  kC : PySem.W.keepIn K (.ref C) = true
section
variable {X : Cx} {pins : List (Addr × Obj)} {σ : L2.St} {H : Hp} {s : Shared} {a C : Addr} {tl : List Value} {newId : String} {f : Str} {y : V} {u : Value} {Q : Unit → Shared → Prop} {E : Value → Shared → Prop} {A : Around}
theorem other_obj {H : Hp} {a b : Addr} {o u : HO} (ha : H a = some o) (hb : H b = some u) (d : o ≠ u) : b ≠ a := by
  rintro rfl
  rw [ha] at hb
  cases hb
  exact d rfl
/-- its first field is set -/
theorem set_first (T : OexT X.K C tl newId) (I : Inv X pins σ H s) (e : H a = some (exo a C none)) (no : PySem.W.findIn X.K (.ref C) f = some none) (ry : RelV y u)
    (out : ∀ dx s', H dx = none → dx ≠ a → Inv X pins σ (upd (upd H dx (exd dx [(f, y)])) a (exo a C (some dx))) s' → Q () s') : wpAny (model X.prog X.w) A (setAttr (.ref a) f u) Q E s := by
  obtain ⟨nm, q, N, bs, bm, sn, sub, ab, col, dd, k0, k1, k2, k3, k5, at_, row⟩ := T.cls
  have data : PySem.W.clsIn X.K C = some { name := nm, bases := bs, mro := .ref C :: bm, ns := N, qualname := q, hasDict := true, slotNames := sn, subclasses := sub, abstract := ab, collection := col, hasDel := false } := by
    unfold PySem.W.clsIn
    rw [at_]
  obtain ⟨t1, ho⟩ := exo_at I.hok e
  obtain ⟨hp, g, d, t, os⟩ := s
  refine PySem.W.set_plain I.kIn (ox := { cls := .ref C, dict := none, data := .fields #[.ref t1, .none, .none, .none, .bool false, .none] }) (od := none) ⟨ho, rfl, rfl, trivial⟩ T.sa ?_
  apply PySem.Ge.first_field T.base I.kIn ho data (show PySem.Ge.tailB tl (.ref C :: bm) = true from row) rfl no
  intro h' tk' dx kept fresh ne here ns
  have free : H dx = none := I.hok.fresh fresh
  have below : ∀ {b : Addr} {o : Obj}, hp.get? b = some o → b ≠ dx := fun q => Nat.ne_of_lt (Nat.lt_of_lt_of_le (Heap.lt_size q) fresh)
  have off : ∀ {b : Addr}, H b = none → b ≠ a := by
    rintro b n rfl
    exact absurd (e.symm.trans n) (by simp)
  have at2 : ∀ {b : Addr} {o : HO}, H b = some o → exo a C none ≠ o → (upd (upd H dx (exd dx [(f, y)])) a (exo a C (some dx))) b = some o := fun {b o} q n => by
    rw [upd_ne (other_obj e q n), upd_ne (ne_of_none q free)]
    exact q
  refine out dx _ free ne (I.un (t' := tk') ?_ ?_)
  · exact
      { keep := fun b o q n _ _ => kept b o (off n) q
        slot := fun b o q n _ _ => ⟨o.slots, kept b o (off n) q⟩
        free := fun b o q n _ => by
          rw [upd_ne (off n), upd_ne (below q)]
          exact n
        there := fun b o q _ => by
          rcases Decidable.em (b = a) with rfl | hb
          · exact ⟨_, here⟩
          · exact ⟨o, kept b o hb q⟩
        tups := fun b xs q => at2 q exo_tup
        frzs := fun b o v q => at2 q exo_frz
        tbls := fun b ps q => ⟨#[], by rw [at2 q exo_tbl]; simp⟩ }
  · intro b o q
    rcases Decidable.em (b = a) with rfl | hb
    · rw [upd_same] at q
      cases q
      exact exo_ok here
    rw [upd_ne hb] at q
    rcases Decidable.em (b = dx) with rfl | hd
    · rw [upd_same] at q
      cases q
      exact exd_ok ns (relO_put (fs := []) ry fun _ => trivial)
    rw [upd_ne hd] at q
    refine (I.hok b o q).stay (fun c v hc z => kept c v ?_ z) (fun c hc => at2 hc exo_own) (fun c xs hc => at2 hc exo_tup)
    rcases hc with rfl | hc
    · exact hb
    · exact other_obj e hc exo_own
end
/-- self.f = e, the first field of such an error -/
def tOstT (K : PySem.W.Frag) (f : Str) (to te : TE) : TS := fun D σ H => te σ H fun y H1 => to σ H1 fun x H2 => ∃ (a C : Addr) (tl : List Value) (newId : String), x = .ref a ∧ OexT K C tl newId ∧ PySem.W.findIn K (.ref C) f = some none ∧ H2 a = some (exo a C none) ∧
  ∀ dx, H2 dx = none → dx ≠ a → D.nx σ (upd (upd H2 dx (exd dx [(f, y)])) a (exo a C (some dx)))
section
variable {X : Cx} {o e : Expr} {f : Str} {p' pos : Pos} {to te : TE}
theorem ps_ostT (ho : PE X o to) (he : PE X e te) (hs : swapsWith e (some (.Attribute o f p')) pos.line X.env = pure false := by rfl) : PS X (.Assign [.Attribute o f p'] e pos) (tOstT X.K f to te) := by
  constructor
  intro pins s σ H D I h
  refine plainObj_wpAny_Assign_Attribute (thn (he.run pins s σ H _ I h) ?_) hs
  rintro v s1 ⟨y, H1, I1, r1, q1⟩
  refine thn (ho.run pins s1 σ H1 _ I1 q1) ?_
  rintro u s2 ⟨x, H2, I2, r2, a, C, tl, newId, rfl, T, no, ea, q⟩
  obtain rfl : u = Value.ref a := r2
  exact set_first T I2 ea no r1 fun dx s' n ne J => ⟨σ, _, J, q dx n ne⟩
end
section
variable {X : Cx} {CX : CXT} {x : Str} {e : Expr} {es : List Expr} {ta : TA} {p pos : Pos} {C fI : Addr} {k : Nat} {fd : FuncData} {ps : List Str} {sp : Sp} {ds : List Value} {dvs : List V} {tl : List Value} {B newId initId : String}
/-- such an error, made: its context is None -/
theorem pmk_T (F : ExcBaseFacts B newId initId tl) (T : OexT X.K C tl newId) (iC : PySem.W.findIn X.K (.ref C) "__init__" = some (some (.ref fI))) (tI : PySem.W.typeIn X.K (.ref fI) = some (.type "function")) (F1 : FnOk X.prog X.w X.K X.mg X.base CX k fI fd ps sp) (hr : Room (k + 1) X.A) (hb : Binds X.K fd ps ds)
    (hd : Vals dvs ds) (hx : Passes CX X (fun _ _ _ => False)) (hm : X.mg x = some (.ref C)) (ha : PA X (e :: es) ta) (hg : Gl X x := by rfl) (hdb : (x == ("__debug__" : Str)) = false := by decide) (he : starEach (e :: es) X.env = (false, eval e X.env) :: starEach es X.env := by rfl)
    (hpl : (backTo pos (starEach es X.env)).any (·.1) = false := by rfl) : L2N.PMk X (.Call (.Name x p) (e :: es) [] pos) (tMkO C sp dvs ta) := fun pins s σ H Q I h => by
  obtain ⟨nm, qn, N, bs, bm, sn, sub, ab, col, dd, k0, k1, k2, k3, k5, hC, row⟩ := T.cls
  refine wpAny_Call_Name_kw (ld_glob I hg hm (PySem.W.callWith_K (h₀ := X.base) I.ok.mod.kin T.kC (thn (ha.run pos pins s σ H _ I h) fun us st ⟨vs, H1, J, rv, hz, q1⟩ => ⟨J.kIn, ?_⟩) he hpl) hdb)
  show wpAny _ _ (call (.ref C) us) _ _ _
  obtain ⟨hp, g, dr, tk, os⟩ := st
  have up : hp.objs.size ≤ hp.objs.size + 1 := by omega
  have spec := q1 (hp.objs.size + 1) (J.hok.fresh up)
  have stay : ∀ b o, hp.get? b = some o → ((hp.push (PySem.W.kdv_tup us)).push (PySem.HandSPX.excO C hp.objs.size)).get? b = some o := fun b o z => Heap.get?_push_of_some _ (Heap.get?_push_of_some _ z)
  have there : ((hp.push (PySem.W.kdv_tup us)).push (PySem.HandSPX.excO C hp.objs.size)).get? (hp.objs.size + 1) = some (PySem.HandSPX.excO C hp.objs.size) := by heap_get
  have J2 := J.laid (t' := tk) (a := hp.objs.size + 1) (o := exo (hp.objs.size + 1) C none) (h' := (hp.push (PySem.W.kdv_tup us)).push (PySem.HandSPX.excO C hp.objs.size)) stay up (exo_ok there)
  have rel : Vals (V.ref (hp.objs.size + 1) :: (vs ++ dvs)) (Value.ref (hp.objs.size + 1) :: (us ++ ds)) := .cons rfl (rv.append hd)
  have len : (Value.ref (hp.objs.size + 1) :: us ++ ds).length = ps.length := (F1.len _ _ _ _ spec ▸ rel.length).symm
  have line : us.length ≤ sizeLine := by rw [← Paired.length rv, sizeLine_eq]; omega
  refine wpAny_call (PySem.HandSPX.call_own F (PySem.Ge.row_contains row) (J.kIn _ _ hC) (PySem.W.looks_findIn J.kIn iC) (fun self => PySem.W.bind_fn J.kIn self tI) line
    (codeAny_mono (F1.run _ X.stack _ _ ⟨Value.ref (hp.objs.size + 1) :: us, []⟩ (Value.ref (hp.objs.size + 1) :: (us ++ ds)) _ _ (fun _ _ _ => False) (hr.make C us []) (J2.env0.make C us []) (hb _ (Value.ref (hp.objs.size + 1) :: us) J2.kIn len) rel spec) fun r s' back => ?_))
  match r, back with
  | .error er, back => exact hx pins σ _ _ er s' J2 back
  | .ok .next, back => exact back.elim
  | .ok .brk, back => exact back.elim
  | .ok .cont, back => exact back.elim
  | .ok (.ret u), back =>
    obtain ⟨v, H2, os2, bare2, un2, hok2, rv2, ev, d, fs, ea, ed, hd1, q2⟩ := back
    subst ev
    obtain ⟨h2, g2, d2, t2, os'⟩ := s'
    obtain ⟨t0, G, JG, kG, ge, hoe, na⟩ := mk_end0 (d2 := d2) (t2 := t2) J up stay un2 hok2 os2 bare2 ea ed hd1
    exact ⟨rv2, _, _, _, ⟨G, g2, d2, t2, os'⟩, _, .ref C, some d, rfl, JG, kG, ge, hoe, ⟨rfl, rfl, fun z ez => by cases ez; rfl⟩, rfl, rfl, na, rfl, bare2, raises_own T.exC T.tyC, q2⟩
end
abbrev leTail : List Value := [.type "LookupError", .type "Exception", .type "BaseException", .type "object"]
abbrev rtTail : List Value := [.type "RuntimeError", .type "Exception", .type "BaseException", .type "object"]
abbrev vlTail : List Value := [.type "ValueError", .type "Exception", .type "BaseException", .type "object"]
theorem tl_le : PySem.Ge.Tl leTail := ⟨PySem.F.store_LookupError.passes, by decide +kernel⟩
theorem tl_rt : PySem.Ge.Tl rtTail := ⟨PySem.F.store_RuntimeError.passes, by decide +kernel⟩
theorem tl_vl : PySem.Ge.Tl vlTail := ⟨PySem.F.store_ValueError.passes, by decide +kernel⟩
end Ge

set_option Elab.async false
set_option linter.all false
set_option maxRecDepth 100000
set_option maxHeartbeats 4000000
namespace PySem
namespace Gf
open Builtin Builtin.ObjectAttr
section
variable {prog : Program} {w : World} {A : Around} {R : Result → Shared → Prop} {hp : Heap} {g : Array GenState} {d : Drawn} {t : Nat} {os : OsState}
/-- object.__setattr__ on an own error that has its dict, over any base -/
theorem next_field {tl : List Value} (T : Ge.Tl tl) {K : W.Frag} {name : Str} {tk : Tok} {v : Value} {x C dx : Addr} {fv : Array Value} {cd : ClassData} {m0 : Str → Option Value} {nl : List Str} (KI : K.In hp) (here : hp.get? x = some { cls := .ref C, dict := some dx, data := .fields fv })
    (hns : hp.Ns1 dx m0) (hw : Within m0 nl) (hz : nl.length ≤ 1000) (cls : W.clsIn K C = some cd) (row : Ge.tailB tl cd.mro = true) (dict : cd.hasDict = true) (no : W.findIn K (.ref C) name = some none)
    (out : ∀ h' tk', (∀ b o, b ≠ dx → hp.get? b = some o → h'.get? b = some o) → h'.Ns1 dx (fun y => if y = name then some v else m0 y) → R (.ok (.ret .none)) ⟨h', g, d, tk', os⟩) :
    codeAny (model prog w) A (.call (.builtin "object.__setattr__") ⟨[.ref x, .str name tk, v], []⟩) R ⟨hp, g, d, t, os⟩ := by
  obtain ⟨oD, esD, epD, hoD, hdD, _⟩ := hns.count hw
  have at_ : W.InstAt hp x { cls := .ref C, dict := some dx, data := .fields fv } C (some oD) := ⟨here, rfl, rfl, hoD⟩
  have facts := F.store_object
  have some_ := Ge.row_some T row
  have below : cd.mro.contains (.type "object") = true := by rw [Ge.row_contains row "object"]; exact T.obj
  have mem : W.mroIn K C (.type "object") = some true := by
    unfold W.mroIn
    rw [cls, Option.bind_some, if_neg (by rw [some_]; decide), below]
  have isObj : W.Looks (model prog w) hp (isInstance (.ref x) (.type "object")) true := at_.type.andThen (W.looks_mroIn KI mem)
  refine codeAny_call_builtin facts.slot.plain facts.entry ?_
  refine @W.check_slot (model prog w) _ _ ⟨hp, g, d, t, os⟩ "object.__setattr__" "object" "__setattr__" (.ref x) [.str name tk, v] [] _ facts.kind facts.split isObj (facts.args (.ref x) (.str name tk) v) ?_
  have rowL : W.Looks (model prog w) hp (mroOf (.ref C)) cd.mro := (W.looks_clsIn KI cls).andThen .now
  have taker : W.Looks (model prog w) hp (storeTaker? none) none := .now
  have dataL : W.Looks (model prog w) hp (classData C) cd := W.looks_clsIn KI cls
  rw [W.osa_eq, refuse_eq]
  refine wpAny_bind (wpAny_bind (at_.type.at (wpAny_bind (rowL.at ?_))))
  rw [Ge.row_pass T _ row]
  refine wpAny_pure (wpAny_bind (at_.type.at (wpAny_bind ((W.looks_findIn KI no).at (wpAny_bind (taker.at ?_))))))
  show wpAny _ _ (storeInOwnDict (.ref x) (.ref C) (.str name tk) name v false) _ _ _
  obtain ⟨c1, c2, c3, c4, c5, c6, c7, c8, c9, c10, c11⟩ := cd
  cases (show c6 = true from dict)
  unfold storeInOwnDict ownDictForStores
  repeat (first | with_reducible refine PySem.OEX.store_in_old hns hw hz ?_ | with_reducible refine wpAny_loadPart_at here ?_ | with_reducible refine dataL.at ?_ | wp_step)
  intro h' tk' hn' hs
  exact out h' tk' (fun b o hb ho => (hs.2 b hb).trans ho) hn'
end
end Gf
end PySem
namespace Gf
open PySem PySem.Spec PyProof.Rows L2 Ge
section
variable {X : Cx} {pins : List (Addr × Obj)} {σ : L2.St} {H : Hp} {s : Shared} {a C dx : Addr} {fs : List (Str × V)} {tl : List Value} {newId : String} {f : Str} {y : V} {u : Value} {Q : Unit → Shared → Prop} {E : Value → Shared → Prop} {A : Around}
theorem set_next (T : OexT X.K C tl newId) (I : Inv X pins σ H s) (e : H a = some (exo a C (some dx))) (ed : H dx = some (exd dx fs)) (hl : fs.length ≤ 900) (no : PySem.W.findIn X.K (.ref C) f = some none) (ry : RelV y u)
    (h : ∀ s', Inv X pins σ (upd H dx (exd dx ((f, y) :: fs))) s' → Q () s') : wpAny (model X.prog X.w) A (setAttr (.ref a) f u) Q E s := by
  obtain ⟨nm, q, N, bs, bm, sn, sub, ab, col, dd, k0, k1, k2, k3, k5, hC, row⟩ := T.cls
  have hcl : PySem.W.clsIn X.K C = some { name := nm, bases := bs, mro := .ref C :: bm, ns := N, qualname := q, hasDict := true, slotNames := sn, subclasses := sub, abstract := ab, collection := col, hasDel := false } := by
    unfold PySem.W.clsIn
    rw [hC]
  obtain ⟨t1, ho⟩ := exo_at I.hok e
  obtain ⟨mA, hns, rel⟩ := exd_at I.hok ed
  have hw := within_of rel
  obtain ⟨hp, g, d, t, os⟩ := s
  obtain ⟨oD, _, _, hoD, _, _⟩ := hns.count hw
  refine PySem.W.set_plain I.kIn (ox := { cls := .ref C, dict := some dx, data := .fields #[.ref t1, .none, .none, .none, .bool false, .none] }) (od := some oD) ⟨ho, rfl, rfl, hoD⟩ T.sa ?_
  refine PySem.Gf.next_field T.base I.kIn ho hns hw (by rw [List.length_map]; omega) hcl (show PySem.Ge.tailB tl (.ref C :: bm) = true from row) rfl no (fun h' tk' k hn => ?_)
  have hd : ∃ o, h'.get? dx = some o := by
    obtain ⟨o, _, _, e', _⟩ := hn
    exact ⟨o, e'⟩
  exact h _ (I.write (t' := tk') (x := dx) (e := dx) (o := exd dx ((f, y) :: fs)) (by rw [ed]; exact True.intro) (.inl rfl) k hd (exd_ok hn (relO_put ry rel)))
end
/-- self.f = e, a later field of such an error -/
def tOstN (K : PySem.W.Frag) (f : Str) (to te : TE) : TS := fun D σ H => te σ H fun y H1 => to σ H1 fun x H2 => ∃ (a C dx : Addr) (fs : List (Str × V)) (tl : List Value) (newId : String), x = .ref a ∧ OexT K C tl newId ∧ PySem.W.findIn K (.ref C) f = some none ∧ H2 a = some (exo a C (some dx)) ∧ H2 dx = some (exd dx fs) ∧ fs.length ≤ 900 ∧
  D.nx σ (upd H2 dx (exd dx ((f, y) :: fs)))
section
variable {X : Cx} {o e : Expr} {f : Str} {p' pos : Pos} {to te : TE}
theorem ps_ostN (ho : PE X o to) (he : PE X e te) (hs : swapsWith e (some (.Attribute o f p')) pos.line X.env = pure false := by rfl) : PS X (.Assign [.Attribute o f p'] e pos) (tOstN X.K f to te) := by
  constructor
  intro pins s σ H D I h
  refine plainObj_wpAny_Assign_Attribute (thn (he.run pins s σ H _ I h) ?_) hs
  rintro v s1 ⟨y, H1, I1, r1, q1⟩
  refine thn (ho.run pins s1 σ H1 _ I1 q1) ?_
  rintro u s2 ⟨x, H2, I2, r2, a, C, dx, fs, tl, newId, rfl, T, no, ea, ed, hl, q⟩
  obtain rfl : u = Value.ref a := r2
  exact set_next T I2 ea ed hl no r1 fun s' J => ⟨σ, _, J, q⟩
end
end Gf

set_option Elab.async false
set_option linter.all false
set_option maxRecDepth 100000
set_option maxHeartbeats 4000000
namespace Tr
open PySem PySem.Spec PyProof.Rows L2
/-! rules that the terms of filters need -/
section
variable {X : Cx}
def b2n (b : Bool) : Int := if b = true then 1 else 0
/-- bool - bool -/
theorem op_subBl : OpR X (binaryOp .Sub) (fun x y H Q => ∃ a b : Bool, x = .bl a ∧ y = .bl b ∧ Q (.int (b2n a - b2n b)) H) := by
  intro pins s σ H x y v u Q I rx ry h
  obtain ⟨a, b, rfl, rfl, q⟩ := h
  cases (show v = Value.bool a from rx)
  cases (show u = Value.bool b from ry)
  exact PyProof.Rows.sub_bool ⟨.int _, H, I.tok _, ⟨_, rfl⟩, q⟩
/-- x is b, x None or a bool, b a bool -/
theorem op_isNb : OpR X (compareOp .Is) (fun x y H Q => ∃ (a : Option Bool) (b : Bool), x = (match a with | some c => .bl c | none => .non) ∧ y = .bl b ∧ Q (.bl (decide (a = some b))) H) := by
  intro pins s σ H x y v u Q I rx ry h
  obtain ⟨a, b, rfl, rfl, q⟩ := h
  cases (show u = Value.bool b from ry)
  cases a with
  | none =>
    cases (show v = Value.none from rx)
    exact wpAny_is_other rfl (fun z => by cases z) ⟨.bl false, H, I, rfl, by simpa using q⟩
  | some c =>
    cases (show v = Value.bool c from rx)
    by_cases e : c = b
    · subst e
      exact wpAny_is_self rfl ⟨.bl true, H, I, rfl, by simpa using q⟩
    · exact wpAny_is_other rfl (fun z => e (Value.bool.inj z)) ⟨.bl false, H, I, rfl, by simpa [e] using q⟩
/-- d[k], d a written dict -/
def tKd (K : PySem.W.Frag) (d : Addr) (td ty : TE) : TE := fun σ H Q => td σ H fun x H1 => ty σ H1 fun y H2 => ∃ (z : Str) (u0 : Value) (v0 : V), x = .ref d ∧ y = .str z ∧ PySem.W.nsIn K d z = some (some u0) ∧ RelV v0 u0 ∧ Q v0 H2
theorem pe_kd {o i : Expr} {pos : Pos} {td ty : TE} {d : Addr} {es : Array DictEntry} {n : Nat} (D : KDict X.K X.w d es n) (ho : PE X o td) (hi : PE X i ty) (hs : NoSl i) : PE X (.Subscript o i pos) (tKd X.K d td ty) := by
  constructor
  intro pins s σ H Q I h
  refine subD_of PySem.F.slot_dict_getitem.lookup hs (thn (ho.run pins s σ H _ I h) ?_)
  rintro u s1 ⟨x, H1, I1, rx, q1⟩
  refine thn (hi.run pins s1 σ H1 _ I1 q1) ?_
  rintro iv s2 ⟨y, H2, I2, ry, z, u0, v0, rfl, rfl, e, r, q⟩
  obtain rfl : u = Value.ref d := rx
  exact ⟨kd_type D I2, op_item_kd D pins s2 σ H2 (.ref d) (.str z) (.ref d) iv Q I2 rfl ry ⟨z, u0, v0, rfl, rfl, e, r, q⟩⟩
end
end Tr

set_option Elab.async false
set_option linter.all false
set_option maxRecDepth 100000
set_option maxHeartbeats 40000000
namespace Lw
open PySem PySem.Spec PyProof.Rows L2
def top (i : Nat) : Stmt := PySem.Challenge.pw_filteredcopies_k33_habits_made.main.body.getD i (.Pass ⟨0, 0, 0, 0⟩)
abbrev sCopied : Stmt := top 2
abbrev sValues : Stmt := top 15
abbrev sNamesH : Stmt := top 16
section
variable {P : Program} {w : World} {K : PySem.W.Frag} {mg : Str → Option Value} {base : Heap}
theorem itTb {b : Bool} {A B : Prop} (h : b = true) (a : A) : if b = true then A else B := by rw [if_pos h]; exact a
theorem itFb {b : Bool} {A B : Prop} (h : b = false) (a : B) : if b = true then A else B := by rw [h, if_neg Bool.false_ne_true]; exact a
/-! copied, of what an error keeps -/
def NotT (K : PySem.W.Frag) (H : Hp) (v : V) (c : String) : Prop := ∃ t, TyX K H v t ∧ PySem.W.kitOne K t (.type c) = some false
def Plain3 (K : PySem.W.Frag) (H : Hp) (v : V) : Prop := NotT K H v "list" ∧ NotT K H v "tuple" ∧ NotT K H v "dict"
theorem plain_int {H : Hp} {v : V} (h : IntN v) : Plain3 K H v := by
  rcases h with ⟨i, rfl⟩ | rfl
  · exact ⟨⟨_, ty_int i, kit_ty (by decide +kernel)⟩, ⟨_, ty_int i, kit_ty (by decide +kernel)⟩, ⟨_, ty_int i, kit_ty (by decide +kernel)⟩⟩
  · exact ⟨⟨_, ty_non, kit_ty (by decide +kernel)⟩, ⟨_, ty_non, kit_ty (by decide +kernel)⟩, ⟨_, ty_non, kit_ty (by decide +kernel)⟩⟩
structure TxtCo (mg : Str → Option Value) : Prop where
  isi : mg "isinstance" = none
  list : mg "list" = none
  tuple : mg "tuple" = none
  dict : mg "dict" = none
def spCopF (K : PySem.W.Frag) : Sp := fun vs H Q _ => ∃ v : V, vs = [v] ∧ Plain3 K H v ∧ Q v H
abbrev nCopied : List Str := ["value", "part", "name"]
theorem scCopied : FnScope nCopied ["value"] (defScope sCopied) := ⟨rfl, rfl, rfl, by decide +kernel, rfl, by decide +kernel, by decide +kernel⟩
theorem ok_copF {f : Addr} {fd : FuncData} (F : FnP K "copied" sCopied f fd) (T : TxtCo mg) : FnOk P w K mg base CX0 1 f fd ["value"] (spCopF K) := by
  refine F.ok scCopied (fun vs H Q E h => ?_) (fun cdv A outer s H vs Q E hr h => ?_)
  · obtain ⟨v, rfl, _⟩ := h
    rfl
  · obtain ⟨v, rfl, ⟨⟨t1, h1, k1⟩, ⟨t2, h2, k2⟩, ⟨t3, h3, k3⟩⟩, k⟩ := h
    refine ⟨_, PSs.nox (pss_cons (ps_if (pt_val (pe_callB call_isi (by rfl) T.isi (by decide +kernel) (pa_cons (pv 0) (pa_cons (pe_bltn (v := .ty "list") (by rfl) T.list (by decide +kernel) rfl) pa_nil)))) (pss_one ps_never) pss_nil)
      (pss_cons (ps_if (pt_val (pe_callB call_isi (by rfl) T.isi (by decide +kernel) (pa_cons (pv 0) (pa_cons (pe_bltn (v := .ty "tuple") (by rfl) T.tuple (by decide +kernel) rfl) pa_nil)))) (pss_one ps_never) pss_nil)
      (pss_cons (ps_if (pt_val (pe_callB call_isi (by rfl) T.isi (by decide +kernel) (pa_cons (pv 0) (pa_cons (pe_bltn (v := .ty "dict") (by rfl) T.dict (by decide +kernel) rfl) pa_nil)))) (pss_one ps_never) pss_nil)
      (pss_one (ps_ret (pv 0)))))), ?_⟩
    exact ⟨_, rfl, _, _, _, _, false, rfl, .ty _, h1, k1, false, rfl, itFb rfl ⟨_, rfl, _, _, _, _, false, rfl, .ty _, h2, k2, false, rfl, itFb rfl ⟨_, rfl, _, _, _, _, false, rfl, .ty _, h3, k3, false, rfl, itFb rfl ⟨_, rfl, k⟩⟩⟩⟩
/-! the four habits and their values -/
def habVals : List (Str × List Str) := [("present", ["stop", "keep", "replace", "merge"]), ("lacking", ["stop", "skip", "make"]), ("gone", ["stop", "skip"]), ("shared", ["one", "all"])]
abbrev habNames : List Str := ["present", "lacking", "gone", "shared"]
structure HabV (K : PySem.W.Frag) (w : World) (mg : Str → Option Value) (dV : Addr) : Prop where
  gV : mg "VALUES" = some (.ref dV)
  ky : Kd.KyD K w dV habNames
  at_ : ∀ q ∈ habVals, ∃ a, KDct K w dV q.1 (.ref a) ∧ ∀ H, SqT K H a (q.2.map V.str)
/-! the law's own words for habits -/
def valsOf (h : Str) : List Str := if h = "present" then ["stop", "keep", "replace", "merge"] else if h = "lacking" then ["stop", "skip", "make"] else if h = "gone" then ["stop", "skip"] else ["one", "all"]
def spValues : Sp := fun vs H Q _ => ∃ h : Str, vs = [.str h] ∧ h ∈ habNames ∧ ∀ l G, Same H G → H l = none → G l = some (.lst ((valsOf h).map V.str)) → Q (.ref l) G
theorem scValues : FnScope ["habit"] ["habit"] (defScope sValues) := ⟨rfl, rfl, rfl, by decide +kernel, rfl, by decide +kernel, by decide +kernel⟩
theorem ok_values {f : Addr} {fd : FuncData} (F : FnP K "_law_values" sValues f fd) : FnOk P w K mg base CX0 1 f fd ["habit"] spValues := by
  refine F.ok scValues (fun vs H Q E h => ?_) (fun cdv A outer s0 H vs Q E hr h => ?_)
  · obtain ⟨h, rfl, _⟩ := h
    rfl
  · obtain ⟨h, rfl, hm, k⟩ := h
    have hu := hu_of hr
    refine ⟨_, PSs.nox (pss_cons (ps_if (pt_cmpR op_eq (pv 0) pe_str (nomark _)) (pss_one (ps_ret (pe_lst (pa_cons pe_str (pa_cons pe_str (pa_cons pe_str (pa_cons pe_str pa_nil))))))) pss_nil)
      (pss_one (ps_ret (pe_dget hu (pe_disp (pps_cons pe_str (pe_lst (pa_cons pe_str (pa_cons pe_str (pa_cons pe_str pa_nil)))) (pps_cons pe_str (pe_lst (pa_cons pe_str (pa_cons pe_str pa_nil))) (pps_cons pe_str (pe_lst (pa_cons pe_str (pa_cons pe_str pa_nil))) pps_nil))) (by rfl) (by rfl) (fun z => by cases z) (by decide)) (pv 0) (fun _ _ => rfl))))), ?_⟩
    refine ⟨_, rfl, rfl, _, rfl, str_it (fun e => ?_) (fun ne => ?_)⟩
    · subst e
      exact ⟨(by show 4 ≤ sizeLine; decide), fun l nl => k l _ (Lw.Same.new (Same.refl H) nl) nl upd_same⟩
    · intro t nt
      have st := Lw.Same.new (o := .dK []) (Same.refl H) nt
      have gt0 : (upd H t (.dK [])) t = some (.dK []) := upd_same
      generalize upd H t (.dK []) = H1 at st gt0 ⊢
      refine ⟨(by show 3 ≤ sizeLine; decide), fun l1 n1 => ⟨(by show 2 ≤ sizeLine; decide), fun l2 n2 => ⟨(by show 2 ≤ sizeLine; decide), fun l3 n3 => ?_⟩⟩⟩
      have s1 := Lw.Same.new (o := .lst [.str "stop", .str "skip", .str "make"]) (Same.refl H1) n1
      have g1 : (upd H1 l1 (.lst [.str "stop", .str "skip", .str "make"])) l1 = some (.lst [.str "stop", .str "skip", .str "make"]) := upd_same
      generalize upd H1 l1 (.lst [.str "stop", .str "skip", .str "make"]) = H2 at n2 n3 s1 g1 ⊢
      have s2 := Lw.Same.new (o := .lst [.str "stop", .str "skip"]) (Same.refl H2) n2
      have g2 : (upd H2 l2 (.lst [.str "stop", .str "skip"])) l2 = some (.lst [.str "stop", .str "skip"]) := upd_same
      generalize upd H2 l2 (.lst [.str "stop", .str "skip"]) = H3 at n3 s2 g2 ⊢
      have s3 := Lw.Same.new (o := .lst [.str "one", .str "all"]) (Same.refl H3) n3
      have g3 : (upd H3 l3 (.lst [.str "one", .str "all"])) l3 = some (.lst [.str "one", .str "all"]) := upd_same
      generalize upd H3 l3 (.lst [.str "one", .str "all"]) = H4 at s3 g3 ⊢
      have gt := s3 _ _ (s2 _ _ (s1 _ _ gt0))
      have sH := st.trans (s1.trans (s2.trans s3))
      have nH : ∀ {b : Addr} {G : Hp}, Same H G → G b = none → H b = none := fun s e => none_of_same s e
      have fin : ∀ (l : Addr) (xs : List V), H l = none → l ≠ t → H4 l = some (.lst xs) → xs = (valsOf h).map V.str → ∀ o, Q (.ref l) (upd H4 t o) := fun l xs nl lt gl e o => by
        refine k l _ (fun b z hb => ?_) nl ?_
        · rw [upd_ne (ne_of_none hb nt)]
          exact sH _ _ hb
        · rw [upd_ne lt, ← e]
          exact gl
      have t1 : l1 ≠ t := (ne_of_none gt0 n1).symm
      have t2 : l2 ≠ t := (ne_of_none (s1 _ _ gt0) n2).symm
      have t3 : l3 ≠ t := (ne_of_none (s2 _ _ (s1 _ _ gt0)) n3).symm
      refine ⟨gt, [(Sum.inr "lacking", .ref l1), (Sum.inr "gone", .ref l2), (Sum.inr "shared", .ref l3)], rfl, (by show 3 ≤ 15; decide), ?_⟩
      refine ⟨_, rfl, t, ?_⟩
      rcases List.mem_cons.mp hm with e | hm
      · exact absurd e ne
      rcases List.mem_cons.mp hm with e | hm
      · subst e
        exact ⟨.ref l1, rfl, .inl ⟨_, Sum.inr "lacking", .inl upd_same, rfl, rfl⟩, fin l1 _ (nH st n1) t1 (s3 _ _ (s2 _ _ g1)) rfl _⟩
      rcases List.mem_cons.mp hm with e | hm
      · subst e
        exact ⟨.ref l2, rfl, .inl ⟨_, Sum.inr "gone", .inl upd_same, rfl, rfl⟩, fin l2 _ (nH (st.trans s1) n2) t2 (s3 _ _ g2) rfl _⟩
      rcases List.mem_cons.mp hm with e | hm
      · subst e
        exact ⟨.ref l3, rfl, .inl ⟨_, Sum.inr "shared", .inl upd_same, rfl, rfl⟩, fin l3 _ (nH (st.trans (s1.trans s2)) n3) t3 g3 rfl _⟩
      · cases hm
def spNamesH : Sp := fun vs H Q _ => vs = [] ∧ ∀ l G, Same H G → H l = none → G l = some (.lst (habNames.map V.str)) → Q (.ref l) G
theorem scNamesH : FnScope [] [] (defScope sNamesH) := ⟨rfl, rfl, rfl, by decide +kernel, rfl, by decide +kernel, by decide +kernel⟩
theorem ok_namesH {f : Addr} {fd : FuncData} (F : FnP K "_law_names_of_habits" sNamesH f fd) : FnOk P w K mg base CX0 1 f fd [] spNamesH := by
  refine F.ok scNamesH (fun vs H Q E h => ?_) (fun cdv A outer s0 H vs Q E hr h => ?_)
  · obtain ⟨rfl, _⟩ := h
    rfl
  · obtain ⟨rfl, k⟩ := h
    refine ⟨_, PSs.nox (pss_one (ps_ret (pe_lst (pa_cons pe_str (pa_cons pe_str (pa_cons pe_str (pa_cons pe_str pa_nil))))))), ?_⟩
    exact ⟨(by show 4 ≤ sizeLine; decide), fun l nl => k l _ (Lw.Same.new (Same.refl H) nl) nl upd_same⟩
/-! a value of any kind; whether it is one of some texts -/
inductive PlV (a : Addr) (H : Hp) : V → Prop where
  | str (z : Str) : PlV a H (.str z)
  | non : PlV a H .non
  | int (i : Int) : PlV a H (.int i)
  | bl (b : Bool) : PlV a H (.bl b)
  | box {p : Addr} (n : p ≠ a) (b : Iw.Box H p) : PlV a H (.ref p)
theorem PlV.keep {a : Addr} {H G : Hp} {v : V} (k : Keep a H G) (h : PlV a H v) : PlV a G v := by
  cases h with
  | str z => exact .str z
  | non => exact .non
  | int i => exact .int i
  | bl b => exact .bl b
  | box n b =>
    cases b with
    | lst h => exact .box n (.lst (k _ _ n h))
    | tup h => exact .box n (.tup (k _ _ n h))
    | dic h => exact .box n (.dic (k _ _ n h))
theorem PlV.ext {a : Addr} {H G : Hp} {v : V} (k : ∀ b o, H b = some o → (∀ ps, o ≠ .tbl ps) → G b = some o) (h : PlV a H v) : PlV a G v := by
  cases h with
  | str z => exact .str z
  | non => exact .non
  | int i => exact .int i
  | bl b => exact .bl b
  | box n b =>
    cases b with
    | lst h => exact .box n (.lst (k _ _ h fun ps z => by cases z))
    | tup h => exact .box n (.tup (k _ _ h fun ps z => by cases z))
    | dic h => exact .box n (.dic (k _ _ h fun ps z => by cases z))
theorem PlV.same {a : Addr} {H G : Hp} {v : V} (s : Same H G) (h : PlV a H v) : PlV a G v := h.ext fun b o e _ => s b o e
def gdL (ts : List Str) : V → Bool
  | .str z => decide (z ∈ ts)
  | _ => false
theorem inV_no {v : V} (h : ∀ z, eqV (.str z) v = false) (ts : List Str) : inV v (ts.map V.str) = false := by
  induction ts with
  | nil => rfl
  | cons z ts ih =>
    show (eqV (.str z) v || inV v (ts.map V.str)) = false
    rw [h z, ih]
    rfl
/-- v not in ts -/
theorem notIn_of {K : PySem.W.Frag} {a p : Addr} {H : Hp} {v : V} {ts : List Str} {Q : VK} (h : PlV a H v) (hq : SqL K H p (ts.map V.str) ∨ SqT K H p (ts.map V.str)) (q : Q (.bl (!gdL ts v)) H) : Iw.rInW K true v (.ref p) H Q := by
  cases h with
  | str z => exact ⟨p, ts, rfl, hq, .inl ⟨rfl, by rw [if_pos rfl, inV_str]; exact q⟩⟩
  | non => exact ⟨p, ts, rfl, hq, .inl ⟨rfl, by rw [if_pos rfl, inV_no (fun _ => rfl)]; exact q⟩⟩
  | int i => exact ⟨p, ts, rfl, hq, .inl ⟨rfl, by rw [if_pos rfl, inV_no (fun _ => rfl)]; exact q⟩⟩
  | bl b => exact ⟨p, ts, rfl, hq, .inl ⟨rfl, by rw [if_pos rfl, inV_no (fun _ => rfl)]; exact q⟩⟩
  | box n b => exact ⟨p, ts, rfl, hq, .inr ⟨_, rfl, b, q⟩⟩
/-- the four values -/
structure Hv where
  pr : V
  la : V
  go : V
  sh : V
def Hv.of (y : Hv) (h : Str) : V := if h = "present" then y.pr else if h = "lacking" then y.la else if h = "gone" then y.go else y.sh
def gd (y : Hv) (h : Str) : Bool := gdL (valsOf h) (y.of h)
def wrongs (y : Hv) : List Str := habNames.filter fun h => !gd y h
structure PlH (a : Addr) (H : Hp) (y : Hv) : Prop where
  pr : PlV a H y.pr
  la : PlV a H y.la
  go : PlV a H y.go
  sh : PlV a H y.sh
theorem PlH.of {a : Addr} {H : Hp} {y : Hv} (h : PlH a H y) (n : Str) : PlV a H (y.of n) := by
  unfold Hv.of
  split
  · exact h.pr
  split
  · exact h.la
  split
  · exact h.go
  · exact h.sh
theorem PlH.keep {a : Addr} {H G : Hp} {y : Hv} (k : Keep a H G) (h : PlH a H y) : PlH a G y := ⟨h.pr.keep k, h.la.keep k, h.go.keep k, h.sh.keep k⟩
theorem PlH.same {a : Addr} {H G : Hp} {y : Hv} (k : Same H G) (h : PlH a H y) : PlH a G y := ⟨h.pr.same k, h.la.same k, h.go.same k, h.sh.same k⟩
theorem PlH.ext {a : Addr} {H G : Hp} {y : Hv} (k : ∀ b o, H b = some o → (∀ ps, o ≠ .tbl ps) → G b = some o) (h : PlH a H y) : PlH a G y := ⟨h.pr.ext k, h.la.ext k, h.go.ext k, h.sh.ext k⟩
theorem wrongs_nil {y : Hv} : wrongs y = [] ↔ ∀ h ∈ habNames, gd y h = true := by
  unfold wrongs
  rw [List.filter_eq_nil_iff]
  exact ⟨fun h x hx => by simpa using h x hx, fun h x hx => by simp [h x hx]⟩
/-- the first wrong one -/
theorem wrongs_at {y : Hv} {i : Nat} {z : Str} (hz : habNames[i]? = some z) (before : ∀ j x, j < i → habNames[j]? = some x → gd y x = true) (no : gd y z = false) : ∃ r, wrongs y = z :: r := by
  obtain ⟨hi, e⟩ := List.getElem?_eq_some_iff.mp hz
  have e2 : habNames = habNames.take i ++ (z :: habNames.drop (i + 1)) := by rw [← e, List.getElem_cons_drop, List.take_append_drop]
  refine ⟨(habNames.drop (i + 1)).filter fun h => !gd y h, ?_⟩
  unfold wrongs
  rw [e2, List.filter_append, List.filter_cons_of_pos (by simp [no])]
  rw [List.filter_eq_nil_iff.mpr fun x hx => ?_, List.nil_append]
  · congr 1
    rw [← e2]
  · obtain ⟨j, hj, ej⟩ := List.mem_iff_getElem.mp hx
    rw [List.length_take] at hj
    have := before j x (by omega) (by rw [← ej, List.getElem_take, List.getElem?_eq_getElem])
    simp [this]
end
end Lw

set_option Elab.async false
set_option linter.all false
set_option maxRecDepth 100000
set_option maxHeartbeats 4000000
namespace Lg
open PySem PySem.Spec PyProof.Rows L2
/-! promises of defs that are called where no guard of repr stands -/
structure FnG (P : Program) (w : World) (K : PySem.W.Frag) (mg : Str → Option Value) (base : Heap) (X0 : CXT) (k : Nat) (f : Addr) (fd : FuncData) (ps : List Str) (sp : Sp) : Prop where
  few : ∀ vs H Q E, sp vs H Q E → vs.length = ps.length
  goes : ∀ (A : Around) (fs : List Env) (s : Shared) (H : Hp) (ar : Args) (us : List Value) (vs : List V) (Q : VK) (E : XK), A.guards = some [] → Room k A → Env0 P w K mg base A fs s H → BindsTo s fd ar (ps.zip us) →
    Vals vs us → sp vs H Q E → codeAny (model P w) A (.call (.ref f) ar) (CR X0 fs P w H s Q E) s
section
variable {P : Program} {w : World} {K : PySem.W.Frag} {mg : Str → Option Value} {base : Heap} {X0 : CXT} {k : Nat} {x qual : Str} {params : Arguments} {bd : List Stmt} {scope : Scope} {dvs : List V} {kws : List (Str × V)} {f : Addr} {fd : FuncData} {N ps : List Str} {sp : Sp}
theorem FnG.of (F : FnOk P w K mg base X0 k f fd ps sp) : FnG P w K mg base X0 k f fd ps sp := ⟨F.len, fun A fs s H ar us vs Q E _ => F.run A fs s H ar us vs Q E⟩
/-- such a def's body -/
theorem okG (F : FunD K x qual params bd scope dvs kws f fd) (S : FnScope N ps scope) (few : ∀ vs H Q E, sp vs H Q E → vs.length = ps.length)
    (does : ∀ (cd : Value) (A : Around) (fs : List Env) (s : Shared) (H : Hp) (vs : List V) (Q : VK) (E : XK), (A.deeper (envOfC qual scope s.heap.objs.size f cd)).guards = some [] → Room k (A.deeper (envOfC qual scope s.heap.objs.size f cd)) → sp vs H Q E →
      ∃ t, PSs (cxOf X0 P w K mg base N qual scope f cd A fs s H E) bd t ∧ t { nx := fun _ G => Q .non G, rt := Q } (start N vs) H) : FnG P w K mg base X0 (k + 1) f fd ps sp := by
  obtain ⟨oc, od, dV, kV, doc, pm, an, cd, ct, sl, rfl, here, code, _, _⟩ := F.ex
  constructor
  · exact few
  intro A fs s H ar us vs Q E g room e0 bt rel pr
  have inK : K.In s.heap := e0.mod.kin.keeps fun b o q => (e0.bs b o q).1
  have free : s.heap.NoLimit := e0.mod.nolimit.keeps fun b o q => (e0.bs b o q).1
  have kinds : ∀ y ∈ ps.zip us, scope.names.lookup y.1 = some .local ∨ (scope.names.lookup y.1 = some .cell ∧ ((cellsFrom (s.heap.objs.size + 1) scope.names []).lookup y.1).isSome = true) := by
    rintro ⟨n, v⟩ hy
    have hn := S.par n (List.of_mem_zip hy).1
    exact hn.imp id fun q => ⟨q, PySem.W.cellsFrom_some _ _ _ (.inl q)⟩
  refine codeAny_call_function room.depth (inK _ _ here) rfl S.co S.gen rfl (PySem.W.codeRec_of inK code) (bt _ _ _ _ (wpAny_newFunctionEnv_cells S.kind kinds ?_))
  intro env he s1 st
  cases he
  refine ⟨free.keeps st.toInCall.keep, codeAny_func ?_⟩
  obtain ⟨t, ht, go⟩ := does cd A fs s H vs Q E g (room.deeper _) pr
  have I : Inv (cxOf X0 P w K mg base N qual scope f cd A fs s H E) [] (start N vs) H s1 := inv_start S room.hd e0 (few _ _ _ _ pr) rel st
  have out : ∀ {σ : L2.St} {G : Hp} {v : V} {u : Value} {s2 : Shared}, Inv (cxOf X0 P w K mg base N qual scope f cd A fs s H E) [] σ G s2 → RelV v u → Q v G → CE fs P w H s Q u s2 := by
    intro σ G v u s2 J r q
    exact ⟨v, G, J.os, J.bare, J.base, J.hok, r, q⟩
  apply wpAny_mono (ht.run [] s1 (start N vs) H _ I go)
  · intro fl s2 z
    match fl, z with
    | .ret u, z => obtain ⟨v, σ, G, J, r, q⟩ := z; exact out J r q
    | .next, z => obtain ⟨σ, G, J, q⟩ := z; exact out (u := Value.none) J (show RelV V.non Value.none from rfl) q
    | .brk, z => obtain ⟨_, _, _, q⟩ := z; exact q.elim
    | .cont, z => obtain ⟨_, _, _, q⟩ := z; exact q.elim
  · exact fun _ _ z => z
end
/-! calls -/
structure CalG (P : Program) (w : World) (K : PySem.W.Frag) (mg : Str → Option Value) (base : Heap) (X0 : CXT) (x : Str) (k : Nat) (ps : List Str) (sp : Sp) : Prop where
  ex : ∃ f fd, mg x = some (.ref f) ∧ PySem.W.keepIn K (.ref f) = true ∧ FnG P w K mg base X0 k f fd ps sp ∧ Binds K fd ps []
section
variable {X : Cx} {x : Str} {p pos : Pos} {e : Expr} {es : List Expr} {t : TA} {k : Nat} {ps : List Str} {sp : Sp}
theorem pe_calG (c : CalG X.prog X.w X.K X.mg X.base CX0 x k ps sp) (gd : X.A.guards = some []) (hr : Room k X.A) (ha : PA X (e :: es) t) (hg : Gl X x := by rfl) (hdb : (x == ("__debug__" : Str)) = false := by decide)
    (he : starEach (e :: es) X.env = (false, eval e X.env) :: starEach es X.env := by rfl) (hpl : (backTo pos (starEach es X.env)).any (·.1) = false := by rfl) :
    PE X (.Call (.Name x p) (e :: es) [] pos) (tCall sp [] E0 t) := by
  obtain ⟨f, fd, hm, hk, F, b⟩ := c.ex
  constructor
  intro pins s σ H Q I h
  refine wpAny_Call_Name_kw (ld_glob I hg hm (PySem.W.callWith_K (h₀ := X.base) I.ok.mod.kin hk (thn (ha.run pos pins s σ H _ I h) ?_) he hpl) hdb)
  rintro us s1 ⟨vs, H1, I1, r, q⟩
  rw [List.append_nil] at q
  have n1 : us.length = ps.length := by rw [← r.length]; exact F.few _ _ _ _ q
  have b1 := b s1 us I1.kIn (by rw [List.append_nil]; exact n1)
  rw [List.append_nil] at b1
  refine ⟨I1.kIn, wpAny_call (codeAny_mono (F.goes X.A X.stack s1 H1 ⟨us, []⟩ us vs Q E0 gd hr I1.env0 b1 r q) ?_)⟩
  intro rr s2 z
  match rr, z with
  | .error e, z => exact z.elim
  | .ok (.ret u), z => exact I1.after z
  | .ok .next, z => exact z.elim
  | .ok .brk, z => exact z.elim
  | .ok .cont, z => exact z.elim
end
end Lg

set_option Elab.async false
set_option linter.all false
set_option maxRecDepth 100000
set_option maxHeartbeats 4000000
namespace Lg
open PySem PySem.Spec PyProof.Rows L2
/-- what a law's call comes to -/
abbrev Yes (s₁ : Shared) : Result → Shared → Prop := fun r s' => r = .ok (.ret (.bool true)) ∧ OldK s₁.heap s'.heap ∧ s'.os = s₁.os ∧ AllBare s'.gens
section
variable {P : Program} {w : World} {K : PySem.W.Frag} {mg mb : Str → Option Value} {X0 : CXT} {k : Nat} {fa a : Addr} {fd : FuncData} {x : Str} {sp : Sp} {s₁ : Shared} {vs : List Value} {ns : List Int}
/-- from a heap in which at most the script is told -/
theorem law_from (inK : K.In s₁.heap) (gl : s₁.heap.Ns mainGlobals mg) (bl : s₁.heap.Ns builtinsNs mb) (same : ∀ x : Str, x ≠ "__name__" → mb x = bootBuiltins x) (free : s₁.heap.NoLimit) (none_ : s₁.gens = #[])
    (script : s₁.heap.get? a = some { cls := .type "list", data := .seq vs.toArray }) (room : Room k callerA) (F : ∀ B : Heap, K.In B → B.Ns mainGlobals mg → FnG P w K mg B X0 k fa fd [x] sp)
    (bt : ∀ (s : Shared) (u : Value), BindsTo s fd ⟨[u], []⟩ [(x, u)]) (no : ∀ H e s', X0 [] H s₁ (fun _ _ _ => False) e s' → False) (H : Hp) (only : Only H) (pr : sp [.ref a] H (fun v _ => v = .bl true) fun _ _ _ => False)
    (ok : HOk P w H s₁.heap) (told : ∀ b u, H b = some u → b = a) (out : ∀ u, H a = some u → K.lookup a = none) : codeAny (model P w) callerA (.call (.ref fa) ⟨[.ref a], []⟩) (Yes s₁) s₁ := by
  have low : ∀ {b : Addr} {o : Obj}, s₁.heap.get? b = some o → (∀ u, H b ≠ some u) → (hidT s₁.heap H).get? b = some o := by
    intro b o q n
    refine hidT_get q ?_
    match hb : H b with
    | none => rfl
    | some u => exact absurd hb (n u)
  have names : ∀ {b : Addr} {m : Str → Option Value}, s₁.heap.Ns b m → (hidT s₁.heap H).Ns b m := by
    rintro b m ⟨o, es, ep, q, d, r⟩
    refine ⟨o, es, ep, low q fun u z => ?_, d, r⟩
    cases told b u z
    rw [script] at q
    cases q
    exact absurd (show Data.seq vs.toArray _ = Data.dict es ep from d) (fun z => by cases z)
  have inB : K.In (hidT s₁.heap H) := fun b o q => low (inK b o q) fun u z => by
    cases told b u z
    rw [out u z] at q
    cases q
  have md : Mod K mg (hidT s₁.heap H) := by
    obtain ⟨mc, c1, c2⟩ := free
    exact ⟨inB, names gl, ⟨mb, names bl, same⟩, ⟨mc, names c1, c2⟩⟩
  have nil : ∀ b : Addr, b ∉ frs ([] : List Env) := fun b z => by cases z
  have e0 : Env0 P w K mg (hidT s₁.heap H) callerA [] s₁ H := ⟨rfl, md, fun b o q => of_hidT q, Nat.le_of_eq (hidT_size _ _), trivial, fun b z => absurd z (nil b), ok, .of_eq none_⟩
  apply codeAny_mono ((F _ inB (names gl)).goes callerA [] s₁ H ⟨[.ref a], []⟩ [.ref a] [.ref a] _ _ rfl room e0 (bt s₁ (.ref a)) (.cons rfl .nil) pr)
  intro r s' z
  match r, z with
  | .error e, z => exact (no H e s' z).elim
  | .ok .next, z => exact z.elim
  | .ok .brk, z => exact z.elim
  | .ok .cont, z => exact z.elim
  | .ok (.ret u), z =>
    obtain ⟨v, G, os, bare, un, ok2, r2, q⟩ := z
    cases (show v = .bl true from q)
    cases (show u = Value.bool true from r2)
    refine ⟨rfl, OldK.of_keep ?_, os, bare⟩
    intro b o hb
    rcases only b with n | ⟨ob, xs, y⟩
    · exact un.keep b o hb n (nil b) (fun z => by cases z)
    · have y1 := (ok b _ y).1
      have y2 := (ok2 b _ (un.frzs b ob _ y)).1
      rw [hb] at y1
      cases y1
      exact y2
theorem law_goes (inK : K.In s₁.heap) (gl : s₁.heap.Ns mainGlobals mg) (bl : s₁.heap.Ns builtinsNs mb) (same : ∀ x : Str, x ≠ "__name__" → mb x = bootBuiltins x) (free : s₁.heap.NoLimit) (none_ : s₁.gens = #[])
    (script : s₁.heap.get? a = some { cls := .type "list", data := .seq vs.toArray }) (whole : IntsAre vs ns) (few : ns.length ≤ sizeLine) (room : Room k callerA) (F : ∀ B : Heap, K.In B → B.Ns mainGlobals mg → FnG P w K mg B X0 k fa fd [x] sp)
    (bt : ∀ (s : Shared) (u : Value), BindsTo s fd ⟨[u], []⟩ [(x, u)]) (pr : ∀ H : Hp, Only H → SqL K H a (ns.map V.int) → sp [.ref a] H (fun v _ => v = .bl true) fun _ _ _ => False)
    (no : ∀ H e s', X0 [] H s₁ (fun _ _ _ => False) e s' → False) : codeAny (model P w) callerA (.call (.ref fa) ⟨[.ref a], []⟩) (Yes s₁) s₁ := by
  have rel := vals_ints whole
  have n := whole.length
  by_cases hk : K.lookup a = none
  · have at_a : ∀ b : Addr, b = a → (if b = a then some (HO.frz { cls := .type "list", data := .seq vs.toArray } (.lst (ns.map V.int))) else none) = some (.frz { cls := .type "list", data := .seq vs.toArray } (.lst (ns.map V.int))) := fun b e => if_pos e
    have off : ∀ b : Addr, b ≠ a → (if b = a then some (HO.frz { cls := .type "list", data := .seq vs.toArray } (.lst (ns.map V.int))) else none) = none := fun b e => if_neg e
    have only : Only fun b => if b = a then some (HO.frz { cls := .type "list", data := .seq vs.toArray } (.lst (ns.map V.int))) else none := fun b => by
      rcases Decidable.em (b = a) with e | e
      · exact .inr ⟨_, _, at_a b e⟩
      · exact .inl (off b e)
    refine law_from inK gl bl same free none_ script room F bt no _ only (pr _ only (.inl (.inr ⟨_, at_a a rfl⟩))) ?_ ?_ fun _ _ => hk
    · intro b u z
      try dsimp only at z
      rcases Decidable.em (b = a) with e | e
      · rw [at_a b e] at z
        cases z
        cases e
        exact ⟨script, by rw [List.length_map]; exact few, vs, _, rel, script⟩
      · rw [off b e] at z
        cases z
    · intro b u z
      try dsimp only at z
      rcases Decidable.em (b = a) with e | e
      · exact e
      · rw [off b e] at z
        cases z
  · obtain ⟨o, ho⟩ := Option.ne_none_iff_exists'.mp hk
    have q := inK a o ho
    rw [script] at q
    cases q
    have only : Only fun _ => none := fun _ => .inl rfl
    refine law_from inK gl bl same free none_ script room F bt no _ only (pr _ only (.inr ⟨_, vs.toArray, _, ho, rfl, rfl, rfl, ?_, ?_⟩)) ?_ ?_ ?_
    · rw [List.size_toArray, n]; exact few
    · simpa using rel
    · exact fun b u z => nomatch (show (none : Option HO) = some u from z)
    · exact fun b u z => nomatch (show (none : Option HO) = some u from z)
    · exact fun u z => nomatch (show (none : Option HO) = some u from z)
end
/-- the goal that is left of a law -/
theorem walk_G {l : PySem.W.OpenLaw} {n k : Nat} {q : Program} {loose : List Str} {XP : (Str → Option Value) → Heap → Prop} {YP : World → Heap → Prop} {d : DefRec} {X0 : CXT} {x : Str} (hn : l.most = some n) (hn2 : n ≤ sizeLine) (hdf : d.params.defaults = []) (room : Room k callerA)
    (F : ∀ (w : World) (mg : Str → Option Value) (fa : Addr) (h : Heap), YP w h → h.Ns mainGlobals mg → mg d.name = some (.ref fa) → ∃ (K : PySem.W.Frag) (fd : FuncData) (sp : Sp), K.In h ∧ (∀ (s : Shared) (u : Value), BindsTo s fd ⟨[u], []⟩ [(x, u)]) ∧
      (∀ (H : Hp) (a : Addr) (ns : List Int), ns.length ≤ n → Only H → SqL K H a (ns.map V.int) → sp [.ref a] H (fun v _ => v = .bl true) fun _ _ _ => False) ∧ ∀ B : Heap, K.In B → B.Ns mainGlobals mg → FnG l.prog w K mg B X0 k fa fd [x] sp)
    (no : ∀ (H : Hp) (s : Shared) (e : Value) (s' : Shared), X0 [] H s (fun _ _ _ => False) e s' → False) : PySem.W.WalkO q loose XP YP l.row.toRowW d [] (fun f vs => PySem.call f vs) := by
  apply Att.attach_call hn hdf
  intro w s₀ s₁ mg mb fa o pm cd doc a vs ns G Y ho hd hcd hmg hobj hints hlen hg
  obtain ⟨K, fd, sp, inK, bt, pr, go⟩ := F w mg fa _ Y G.T.g hmg
  exact law_goes inK G.T.g G.T.b G.T.builtins G.T.nolimit hg hobj hints (Nat.le_trans hlen hn2) room go bt (fun H o s => pr H a ns hlen o s) fun H e s' => no H s₁ e s'
end Lg

set_option Elab.async false
set_option linter.all false
set_option maxRecDepth 100000
set_option maxHeartbeats 4000000
namespace Lg
open PySem PySem.Spec PyProof.Rows L2
/-! values as data, dicts too -/
def kD : Key → PyData
  | .inl i => .int i
  | .inr z => .str z
mutual
inductive Da (H : Hp) : V → PyData → Prop where
  | non : Da H .non .none
  | bl (b : Bool) : Da H (.bl b) (.bool b)
  | int (i : Int) : Da H (.int i) (.int i)
  | str (z : Str) : Da H (.str z) (.str z)
  | lst {a : Addr} {xs : List V} {ds : List PyData} (h : H a = some (.lst xs)) (all : DaAll H xs ds) : Da H (.ref a) (.list ds)
  | tup {a : Addr} {xs : List V} {ds : List PyData} (h : H a = some (.tup xs)) (all : DaAll H xs ds) : Da H (.ref a) (.tuple ds)
  | dic {a : Addr} {kvs : List (Key × V)} {ds : List PyData} (h : H a = some (.dK kvs)) (all : DaAll H (kvs.map (·.2)) ds) : Da H (.ref a) (.dict ((kvs.map fun p => kD p.1).zip ds))
inductive DaAll (H : Hp) : List V → List PyData → Prop where
  | nil : DaAll H [] []
  | cons {v : V} {vs : List V} {d : PyData} {ds : List PyData} (h : Da H v d) (all : DaAll H vs ds) : DaAll H (v :: vs) (d :: ds)
end
mutual
theorem Da.same {H G : Hp} (s : Same H G) : ∀ {v : V} {d : PyData}, Da H v d → Da G v d
  | _, _, .non => .non
  | _, _, .bl b => .bl b
  | _, _, .int i => .int i
  | _, _, .str z => .str z
  | _, _, .lst h all => .lst (s _ _ h) (DaAll.same s all)
  | _, _, .tup h all => .tup (s _ _ h) (DaAll.same s all)
  | _, _, .dic h all => .dic (s _ _ h) (DaAll.same s all)
theorem DaAll.same {H G : Hp} (s : Same H G) : ∀ {vs : List V} {ds : List PyData}, DaAll H vs ds → DaAll G vs ds
  | _, _, .nil => .nil
  | _, _, .cons h all => .cons (Da.same s h) (DaAll.same s all)
end
theorem DaAll.length {H : Hp} : ∀ {vs : List V} {ds : List PyData}, DaAll H vs ds → vs.length = ds.length
  | _, _, .nil => rfl
  | _, _, .cons _ all => by rw [List.length_cons, List.length_cons, DaAll.length all]
/-- the interpreter's own table of modules stands in K -/
def SysIn (K : PySem.W.Frag) : Prop := ∃ o, K.lookup sysModules = some o ∧ o.cls = .type "dict"
section
variable {X : Cx} {pins : List (Addr × Obj)} {σ : L2.St} {H : Hp} {s : Shared}
theorem key_reads {h : Heap} {k : Key} {u : Value} (e : (mixKind X.prog X.w).is k u = true) : Reads h u (kD k) [] := by
  rcases keyIs_shape e with ⟨i, t, rfl, rfl⟩ | ⟨z, t, rfl, rfl⟩
  · exact Reads.int i t
  · exact Reads.str z t
theorem ne_sys (I : Inv X pins σ H s) (y : SysIn X.K) {a : Addr} {o : Obj} (h : s.heap.get? a = some o) (c : o.cls ≠ .type "dict") : sysModules ≠ a := by
  rintro rfl
  obtain ⟨u, hu, cu⟩ := y
  have q := I.kIn _ _ hu
  rw [h] at q
  cases q
  exact c cu
theorem keys_read {h : Heap} : ∀ {es : List DictEntry} {kvs : List (Key × Value)}, Pairs (mixKind X.prog X.w) es kvs → ReadsAll h (es.map (·.key)) (kvs.map fun p => kD p.1) [] ∧ es.map (·.val) = kvs.map (·.2)
  | _, _, .nil => ⟨.nil, rfl⟩
  | _, _, .cons k v r => by
    obtain ⟨r1, r2⟩ := keys_read (h := h) r
    exact ⟨ReadsAll.cons (key_reads k) r1, by rw [List.map_cons, List.map_cons, r2, v]⟩
theorem kv_split : ∀ {kvs : List (Key × V)} {vs : List (Key × Value)}, KV kvs vs → vs.map (fun p => kD p.1) = kvs.map (fun p => kD p.1) ∧ Vals (kvs.map (·.2)) (vs.map (·.2))
  | _, _, .nil => ⟨rfl, .nil⟩
  | _, _, .cons h r => by
    obtain ⟨r1, r2⟩ := kv_split r
    exact ⟨by rw [List.map_cons, List.map_cons, r1, h.1], .cons h.2 r2⟩
theorem zip_fst : ∀ {as bs : List PyData}, as.length = bs.length → (as.zip bs).map (·.1) = as ∧ (as.zip bs).map (·.2) = bs
  | [], [], _ => ⟨rfl, rfl⟩
  | a :: as, b :: bs, h => by
    obtain ⟨r1, r2⟩ := zip_fst (as := as) (bs := bs) (by simpa using h)
    exact ⟨by rw [List.zip_cons_cons, List.map_cons, r1], by rw [List.zip_cons_cons, List.map_cons, r2]⟩
mutual
theorem Da.reads (I : Inv X pins σ H s) (y : SysIn X.K) : ∀ {v : V} {d : PyData} {u : Value}, Da H v d → RelV v u → ∃ as, Reads s.heap u d as ∧ sysModules ∉ as
  | _, _, u, .non, r => by cases (show u = Value.none from r); exact ⟨_, Reads.none, List.not_mem_nil⟩
  | _, _, u, .bl b, r => by cases (show u = Value.bool b from r); exact ⟨_, Reads.bool b, List.not_mem_nil⟩
  | _, _, u, .int i, r => by obtain ⟨t, e⟩ := (show ∃ t, u = Value.int i t from r); cases e; exact ⟨_, Reads.int i t, List.not_mem_nil⟩
  | _, _, u, .str z, r => by obtain ⟨t, e⟩ := (show ∃ t, u = Value.str z t from r); cases e; exact ⟨_, Reads.str z t, List.not_mem_nil⟩
  | _, _, u, .lst (a := a) (xs := xs) h all, r => by
    cases (show u = Value.ref a from r)
    obtain ⟨_, its, n, rv, ho⟩ := (show ObjOk X.prog X.w H s.heap a (.lst xs) from I.hok a _ h)
    obtain ⟨as, q, n1⟩ := DaAll.reads I y all rv
    refine ⟨_, Reads.list ho rfl rfl (by simpa using q), ?_⟩
    rintro (_ | _)
    · exact ne_sys I y ho (by simp) rfl
    · rename_i z; exact n1 z
  | _, _, u, .tup (a := a) (xs := xs) h all, r => by
    cases (show u = Value.ref a from r)
    obtain ⟨_, its, rv, o, ho, hc, n, hd⟩ := (show ObjOk X.prog X.w H s.heap a (.tup xs) from I.hok a _ h)
    obtain ⟨as, q, n1⟩ := DaAll.reads I y all rv
    exact ⟨_, Reads.tuple ho hc hd (by simpa using q), n1⟩
  | _, _, u, .dic (a := a) (kvs := kvs) (ds := ds) h all, r => by
    cases (show u = Value.ref a from r)
    obtain ⟨_, ns, vs, kv, o, es, ep, ho, hx, hd, _, ps, _⟩ := (show ObjOk X.prog X.w H s.heap a (.dK kvs) from I.hok a _ h)
    obtain ⟨k1, k2⟩ := keys_read (h := s.heap) ps
    obtain ⟨k3, k4⟩ := kv_split kv
    obtain ⟨as, q, n1⟩ := DaAll.reads I y all k4
    have ln : (kvs.map fun p => kD p.1).length = ds.length := by rw [List.length_map, ← all.length, List.length_map]
    obtain ⟨z1, z2⟩ := zip_fst ln
    refine ⟨_, Reads.dict ho hx.1 hd (as := []) (by rw [z1, ← k3]; exact k1) (by rw [z2, k2]; exact q), ?_⟩
    rintro (_ | _)
    · exact absurd ns (by simp)
    · rename_i z; exact n1 z
theorem DaAll.reads (I : Inv X pins σ H s) (y : SysIn X.K) : ∀ {vs : List V} {ds : List PyData} {us : List Value}, DaAll H vs ds → Vals vs us → ∃ as, ReadsAll s.heap us ds as ∧ sysModules ∉ as
  | _, _, _, .nil, .nil => ⟨_, ReadsAll.nil, List.not_mem_nil⟩
  | _, _, _, .cons h all, .cons r rs => by
    obtain ⟨as, q1, n1⟩ := Da.reads I y h r
    obtain ⟨bs, q2, n2⟩ := DaAll.reads I y all rs
    exact ⟨_, ReadsAll.cons q1 q2, fun z => (List.mem_append.mp z).elim n1 n2⟩
end
/-- repr of data -/
def rRepr : List V → Hp → VK → Prop := fun xs H Q => ∃ (v : V) (d : PyData), xs = [v] ∧ Da H v d ∧ d.showable = true ∧ d.depth ≤ 16 ∧ d.shown.length ≤ sizeLine ∧ Q (.str d.shown) H
theorem call_repr (y : SysIn X.K) (g : X.A.guards = some []) (room : X.A.units + 200 < cLine) : CallR X (.builtin "repr") rRepr := by
  intro pins s σ H xs us Q I r h
  obtain ⟨v, d, rfl, hd, hs, dp, sz, q⟩ := h
  obtain ⟨u, rfl, rv⟩ := vals1 r
  obtain ⟨as, rd, nm⟩ := Da.reads I y hd rv
  have big : ∀ b : Addr, u = .ref b → wpAny (model X.prog X.w) X.A (call (.builtin "repr") [u]) (EP X pins σ Q) X.xe s := by
    rintro b rfl
    exact PySem.repr_of_reads' rd hs (fun _ => nm) g (by omega) (fun _ _ e => e) (fun h' t tk kept => ⟨.str _, H, I.kept kept, ⟨t, rfl⟩, q⟩) sz
  cases hd with
  | non => cases (show u = Value.none from rv); exact PySem.P.repr_of_none ⟨.str "None", H, I.tok _, ⟨_, rfl⟩, q⟩
  | bl b => cases (show u = Value.bool b from rv); exact PySem.P.repr_of_bool ⟨.str _, H, I.tok _, ⟨_, rfl⟩, q⟩
  | int i => obtain ⟨t, e⟩ := (show ∃ t, u = Value.int i t from rv); cases e; exact PySem.P.repr_of_int (of_decide_eq_true hs) ⟨.str _, H, I.tok _, ⟨_, rfl⟩, q⟩
  | str z => obtain ⟨t, e⟩ := (show ∃ t, u = Value.str z t from rv); cases e; exact PySem.P.repr_of_str ⟨.str _, H, I.tok _, ⟨_, rfl⟩, q⟩ sz
  | lst h all => exact big _ rv
  | tup h all => exact big _ rv
  | dic h all => exact big _ rv
end
end Lg

set_option Elab.async false
set_option linter.all false
set_option maxRecDepth 100000
set_option maxHeartbeats 0
namespace Hb
open PySem PySem.Spec PyProof.Rows L2
/-! a Hook: facts, defs wherever they stand, one Bool more; the table of modules is seen too -/
abbrev Al : Type := He.AlD × Bool
def asB (g : Addr → Option Obj) (n : Nat) : List Addr := He5.asA g n ++ [sysModules]
def obG (n : Nat) (fa : List He.Fa) (fn : List He5.DefA) (own : PySem.W.Frag → Bool) (g : Addr → Option Obj) : Al := (He5.obsA fa fn (He.frG g (asB g n)), own (He.frG g (asB g n)))
def Says (fa : List He.Fa) (fn : List He5.DefA) (own : PySem.W.Frag → Bool) (K : PySem.W.Frag) : Prop := He5.SaysA fa fn K ∧ own K = true
def hook (n : Nat) (fa : List He.Fa) (fn : List He5.DefA) (own : PySem.W.Frag → Bool) : PySem.W.Hook where
  α := Al
  obs := fun s => obG n fa fn own s.heap.get?
  val := fun _ => (He5.valA fn, true)
  says := fun _ h => ∃ K : PySem.W.Frag, K.In h ∧ Says fa fn own K
  of := fun _ _ e => ⟨_, He.frG_in, congrArg Prod.fst e, congrArg Prod.snd e⟩
  keeps := fun _ _ _ ⟨K, hK, c⟩ k => ⟨K, PySem.W.Frag.In.keeps hK k, c⟩
theorem obG_eq {n : Nat} {fa : List He.Fa} {fn : List He5.DefA} {own : PySem.W.Frag → Bool} {g : Addr → Option Obj} {s : Shared} (h : ∀ a, g a = s.heap.get? a) : obG n fa fn own g = (hook n fa fn own).obs s := by
  rw [show g = s.heap.get? from funext h] <;> rfl
theorem Says.fact {fa : List He.Fa} {fn : List He5.DefA} {own : PySem.W.Frag → Bool} {K : PySem.W.Frag} (c : Says fa fn own K) {f : He.Fa} (hf : f ∈ fa) : f.ok K = true := by
  obtain ⟨i, hi⟩ := List.getElem?_of_mem hf
  exact c.1.fact i hi
/-- a class's constants -/
def cvS (K : PySem.W.Frag) (C : Addr) (f z : Str) : Bool := match PySem.W.findCls K (.ref C) (.type "type") f with
  | some (.val (.str y _)) => decide (y = z)
  | _ => false
def cvI (K : PySem.W.Frag) (C : Addr) (f : Str) (i : Int) : Bool := match PySem.W.findCls K (.ref C) (.type "type") f with
  | some (.val (.int y _)) => decide (y = i)
  | _ => false
theorem cvS_ok {K : PySem.W.Frag} {C : Addr} {f z : Str} (h : cvS K C f z = true) : ∃ u, ClX.CVal K C (.type "type") f (.str z) u := by
  unfold cvS at h
  split at h
  · rename_i y t e
    exact ⟨_, e, t, by rw [of_decide_eq_true h]⟩
  · cases h
theorem cvI_ok {K : PySem.W.Frag} {C : Addr} {f : Str} {i : Int} (h : cvI K C f i = true) : ∃ u, ClX.CVal K C (.type "type") f (.int i) u := by
  unfold cvI at h
  split at h
  · rename_i y t e
    exact ⟨_, e, t, by rw [of_decide_eq_true h]⟩
  · cases h
def crB (K : PySem.W.Frag) (C : Addr) : Bool := PySem.W.readsIn K C (.type "type") && He.eqO (PySem.W.specialIn K (.ref C) "__getattribute__") (some (some (.builtin "type.__getattribute__")))
theorem crB_ok {K : PySem.W.Frag} {C : Addr} (h : crB K C = true) : ClX.CRead K C (.type "type") := ⟨(He.ba h).1, He.eqO_ok (He.ba h).2⟩
def sysB (K : PySem.W.Frag) : Bool := match K.lookup sysModules with
  | some o => decide (o.cls = .type "dict")
  | none => false
theorem sysB_ok {K : PySem.W.Frag} (h : sysB K = true) : Lg.SysIn K := by
  unfold sysB at h
  split at h
  · rename_i o e
    exact ⟨o, e, of_decide_eq_true h⟩
  · cases h
end Hb

set_option Elab.async false
set_option linter.all false
set_option maxRecDepth 100000
set_option maxHeartbeats 0
namespace Hd2
open PySem PySem.Spec PyProof.Rows L2
/-! a Hook: facts, defs wherever they stand, written dicts, one Bool more; the table of modules is seen -/
abbrev Tb : Type := List (Option (List (Option (PySem.Str × Int))))
abbrev Al : Type := He.AlD × (Tb × Bool)
def tbs (ts : List He.Tab) (K : PySem.W.Frag) : Tb := ts.map fun t => He.dicW K (t.1 K)
def tbv (ts : List He.Tab) (w : World) : Tb := ts.map fun t => some (He.keysIn w.params t.2)
def obG (n : Nat) (fa : List He.Fa) (fn : List He5.DefA) (ts : List He.Tab) (own : PySem.W.Frag → Bool) (g : Addr → Option Obj) : Al :=
  (He5.obsA fa fn (He.frG g (Hb.asB g n)), (tbs ts (He.frG g (Hb.asB g n)), own (He.frG g (Hb.asB g n))))
def Says (fa : List He.Fa) (fn : List He5.DefA) (ts : List He.Tab) (own : PySem.W.Frag → Bool) (w : World) (K : PySem.W.Frag) : Prop := He5.SaysA fa fn K ∧ (tbs ts K = tbv ts w ∧ own K = true)
theorem says_of {n : Nat} {fa : List He.Fa} {fn : List He5.DefA} {ts : List He.Tab} {own : PySem.W.Frag → Bool} {w : World} {g : Addr → Option Obj} (e : obG n fa fn ts own g = (He5.valA fn, (tbv ts w, true))) : Says fa fn ts own w (He.frG g (Hb.asB g n)) :=
  ⟨congrArg Prod.fst e, congrArg Prod.fst (congrArg Prod.snd e), congrArg Prod.snd (congrArg Prod.snd e)⟩
def hook (n : Nat) (fa : List He.Fa) (fn : List He5.DefA) (ts : List He.Tab) (own : PySem.W.Frag → Bool) : PySem.W.Hook where
  α := Al
  obs := fun s => obG n fa fn ts own s.heap.get?
  val := fun w => (He5.valA fn, (tbv ts w, true))
  says := fun w h => ∃ K : PySem.W.Frag, K.In h ∧ Says fa fn ts own w K
  of := fun _ _ e => ⟨_, He.frG_in, says_of e⟩
  keeps := fun _ _ _ ⟨K, hK, c⟩ k => ⟨K, PySem.W.Frag.In.keeps hK k, c⟩
theorem obG_eq {n : Nat} {fa : List He.Fa} {fn : List He5.DefA} {ts : List He.Tab} {own : PySem.W.Frag → Bool} {g : Addr → Option Obj} {s : Shared} (h : ∀ a, g a = s.heap.get? a) : obG n fa fn ts own g = (hook n fa fn ts own).obs s := by
  rw [show g = s.heap.get? from funext h] <;> rfl
section
variable {fa : List He.Fa} {fn : List He5.DefA} {ts : List He.Tab} {own : PySem.W.Frag → Bool} {w : World} {K : PySem.W.Frag}
theorem Says.fact (c : Says fa fn ts own w K) {f : He.Fa} (hf : f ∈ fa) : f.ok K = true := by
  obtain ⟨i, hi⟩ := List.getElem?_of_mem hf
  exact c.1.fact i hi
theorem Says.tab (c : Says fa fn ts own w K) (i : Nat) {t : He.Tab} (h : ts[i]? = some t := by rfl) : ∃ es n, KDict K w (t.1 K) es n := by
  have e := congrArg (fun l : Tb => l[i]?) c.2.1
  simp only [tbs, tbv, List.getElem?_map, h] at e
  exact He.dicW_ok (Option.some.inj e)
end
end Hd2

set_option Elab.async false
set_option linter.all false
set_option maxRecDepth 100000
set_option maxHeartbeats 2000000
namespace Lm
open PySem PySem.Spec PyProof.Rows L2
/-! a lambda's error is caught where the slots' number is known -/
theorem takes_len {X : Cx} {W : WX} (tk : L2.Takes X W) : L2.Takes X (fun c d σ H => σ.length = X.N.length → W c d σ H) := fun u s' x => by
  obtain ⟨a, B, sI, pins, σ, H, cls, d, e, I, nb, up, sky, na, os, ag, q⟩ := x
  exact tk u s' ⟨a, B, sI, pins, σ, H, cls, d, e, I, nb, up, sky, na, os, ag, q I.len⟩
/-- an error made with the context None is an error made -/
theorem pmk_c {X : Cx} {e : Expr} {t : L2.St → Hp → XK → Prop} (h : L2N.PMk X e t) : L2.PMk X e t := fun pins s σ H Q I q => by
  refine wpAny_mono (h pins s σ H Q I q) (fun u s' z => ?_) (fun _ _ z => z)
  obtain ⟨a, oe, vs, sI, H', cls, d, e1, J, k, n1, n2, zn, r⟩ := z
  exact ⟨a, oe, vs, sI, H', cls, d, e1, J, k, n1, n2, zn.zc, r⟩
/-- a def's body, its code object told -/
theorem okC {CX : CXT} {P : Program} {w : World} {K : PySem.W.Frag} {mg : Str → Option Value} {base : Heap} {k : Nat} {p : He.Defn} {x qual : Str} {params : Arguments} {bd : List Stmt} {scope : Scope} {dvs : List V} {kws : List (Str × V)} {fd : FuncData} {N ps : List Str} {sp : Sp}
    (F : FunD K x qual params bd scope dvs kws (He.fAd K p) fd) (S : FnScope N ps scope) (few : ∀ vs H Q E, sp vs H Q E → vs.length = ps.length)
    (does : ∀ (cd : Value) (A : Around) (fs : List Env) (s : Shared) (H : Hp) (vs : List V) (Q : VK) (E : XK), cd = .ref (He.cT K p).1 → Room k (A.deeper (envOfC qual scope s.heap.objs.size (He.fAd K p) cd)) → sp vs H Q E →
      ∃ t, PSs (cxOf CX P w K mg base N qual scope (He.fAd K p) cd A fs s H E) bd t ∧ t { nx := fun _ G => Q .non G, rt := Q } (start N vs) H) : FnOk P w K mg base CX (k + 1) (He.fAd K p) fd ps sp := by
  obtain ⟨oc, od, dV, kV, doc, pm, an, cd, ct, sl, rfl, here, code, _, _⟩ := F.ex
  obtain ⟨c, rfl⟩ := He.codeIn_ref code
  exact fn_of here code S few fun A fs s H vs Q E room pr => does _ A fs s H vs Q E (congrArg Value.ref (He.codeOf_eq here rfl).symm) room pr
/-! tables of code objects are kept -/
theorem tabs_keep {T : List (Addr × Str)} {H G : Hp} {a : Addr} {o : HO} (ha : H a = some o) (no : ∀ ps, o ≠ .tbl ps) (nc : ∀ q, o ≠ LamX.CodeO a q) (k : Lw.Keep a H G) (t : LamX.Tabs T H) : LamX.Tabs T G := fun p hp => by
  obtain ⟨ps, h1, h2, h3⟩ := t p hp
  have n1 : p.1 ≠ a := fun z => by
    rw [z, ha] at h1
    exact no ps (Option.some.inj h1)
  refine ⟨ps, k _ _ n1 h1, h2, fun pos cv hc => ?_⟩
  obtain ⟨c, e, hco⟩ := h3 pos cv hc
  refine ⟨c, e, k _ _ (fun z => ?_) hco⟩
  subst z
  rw [ha] at hco
  exact nc _ (Option.some.inj hco)
theorem tabs_same {T : List (Addr × Str)} {H G : Hp} (s : Same H G) (t : LamX.Tabs T H) : LamX.Tabs T G := LamX.Tabs.ext t fun b o => s b o
end Lm
namespace Hd4
open PySem PySem.Spec PyProof.Rows L2
/-! a Hook as Hd2's; some defs' code objects and their empty tables are told too -/
abbrev Al : Type := He.AlD × (Hd2.Tb × Bool)
def obG (n : Nat) (fa : List He.Fa) (fn : List He5.DefA) (ts : List He.Tab) (tf : List He.Defn) (own : PySem.W.Frag → Bool) (g : Addr → Option Obj) : Al :=
  (He5.obsA fa fn (He.frT g (Hb.asB g n)), (Hd2.tbs ts (He.frT g (Hb.asB g n)), own (He.frT g (Hb.asB g n)) && He.tabsB g tf (He.frT g (Hb.asB g n))))
structure Says (fa : List He.Fa) (fn : List He5.DefA) (ts : List He.Tab) (tf : List He.Defn) (own : PySem.W.Frag → Bool) (w : World) (h : Heap) (K : PySem.W.Frag) : Prop where
  t : Hd2.Says fa fn ts own w K
  hd : ∀ p ∈ tf, PySem.W.codeHdIn K (He.cT K p).1 (He.cT K p).2 = true
  out : ∀ p ∈ tf, K.lookup (He.cT K p).2 = none
  empty : ∀ p ∈ tf, h.get? (He.cT K p).2 = some { cls := .none, data := .fields #[] }
theorem says_of {n : Nat} {fa : List He.Fa} {fn : List He5.DefA} {ts : List He.Tab} {tf : List He.Defn} {own : PySem.W.Frag → Bool} {w : World} {h : Heap} (e : obG n fa fn ts tf own h.get? = (He5.valA fn, (Hd2.tbv ts w, true))) : Says fa fn ts tf own w h (He.frT h.get? (Hb.asB h.get? n)) := by
  have e2 : (own (He.frT h.get? (Hb.asB h.get? n)) && He.tabsB h.get? tf (He.frT h.get? (Hb.asB h.get? n))) = true := congrArg Prod.snd (congrArg Prod.snd e)
  obtain ⟨o1, o2⟩ := He.ba e2
  have each : ∀ p ∈ tf, PySem.W.codeHdIn (He.frT h.get? (Hb.asB h.get? n)) (He.cT (He.frT h.get? (Hb.asB h.get? n)) p).1 (He.cT (He.frT h.get? (Hb.asB h.get? n)) p).2 = true ∧ ∃ o, h.get? (He.cT (He.frT h.get? (Hb.asB h.get? n)) p).2 = some o ∧ He.emptyTab o = true := fun p hp => by
    obtain ⟨z1, z2⟩ := He.ba (List.all_eq_true.mp o2 p hp)
    refine ⟨z1, ?_⟩
    split at z2
    · rename_i o ho
      exact ⟨o, ho, z2⟩
    · cases z2
  refine ⟨⟨congrArg Prod.fst e, congrArg Prod.fst (congrArg Prod.snd e), o1⟩, fun p hp => (each p hp).1, fun p hp => ?_, fun p hp => ?_⟩
  · obtain ⟨_, o, ho, z⟩ := each p hp
    exact He.frT_none ho z
  · obtain ⟨_, o, ho, z⟩ := each p hp
    rw [ho, He.emptyTab_eq z]
def hook (n : Nat) (fa : List He.Fa) (fn : List He5.DefA) (ts : List He.Tab) (tf : List He.Defn) (own : PySem.W.Frag → Bool) : PySem.W.Hook where
  α := Al
  obs := fun s => obG n fa fn ts tf own s.heap.get?
  val := fun w => (He5.valA fn, (Hd2.tbv ts w, true))
  says := fun w h => ∃ K : PySem.W.Frag, K.In h ∧ Says fa fn ts tf own w h K
  of := fun _ _ e => ⟨_, He.frT_in, says_of e⟩
  keeps := fun _ _ _ ⟨K, hK, c⟩ k => ⟨K, PySem.W.Frag.In.keeps hK k, c.t, c.hd, c.out, fun p hp => k _ _ (c.empty p hp)⟩
theorem obG_eq {n : Nat} {fa : List He.Fa} {fn : List He5.DefA} {ts : List He.Tab} {tf : List He.Defn} {own : PySem.W.Frag → Bool} {g : Addr → Option Obj} {s : Shared} (h : ∀ a, g a = s.heap.get? a) : obG n fa fn ts tf own g = (hook n fa fn ts tf own).obs s := by
  rw [show g = s.heap.get? from funext h] <;> rfl
end Hd4

set_option Elab.async false
set_option linter.all false
set_option maxRecDepth 100000
set_option maxHeartbeats 40000000
namespace Lw
open PySem PySem.Spec PyProof.Rows L2
abbrev sBhI : Stmt := inClass (top 5) 0
abbrev sHabI : Stmt := inClass (top 8) 0
section
variable {P : Program} {w : World} {K : PySem.W.Frag} {mg : Str → Option Value} {base : Heap}
/-! BadHabit(habit) -/
theorem plain_str {H : Hp} (z : Str) : Plain3 K H (.str z) := ⟨⟨_, ty_str z, kit_ty (by decide +kernel)⟩, ⟨_, ty_str z, kit_ty (by decide +kernel)⟩, ⟨_, ty_str z, kit_ty (by decide +kernel)⟩⟩
abbrev habF (z : Str) : List (Str × V) := [("habit", .str z)]
def spBhI (C : Addr) : Sp := fun vs H Q _ => ∃ (a : Addr) (z : Str), vs = [.ref a, .str z] ∧ H a = some (exo a C none) ∧ ∀ (d : Addr) (G : Hp), H d = none → d ≠ a → Keep a H G → G a = some (exo a C (some d)) → G d = some (exd d (habF z)) → Q .non G
structure TxtBh (K : PySem.W.Frag) (mg : Str → Option Value) (C : Addr) (newId : String) : Prop where
  oex : Ge.OexT K C Ge.vlTail newId
  nH : PySem.W.findIn K (.ref C) "habit" = some none
  gB : mg "BadHabit" = some (.ref C)
theorem scBhI : FnScope ["self", "habit"] ["self", "habit"] (defScope sBhI) := ⟨rfl, rfl, rfl, by decide +kernel, rfl, by decide +kernel, by decide +kernel⟩
theorem ok_bhI {C f : Addr} {fd : FuncData} {newId : String} (F : MethD K "__init__" "BadHabit.__init__" sBhI f fd) (T : TxtBh K mg C newId) (cC : Cal P w K mg base CX0 "copied" 1 ["value"] (spCopF K)) : FnOk P w K mg base CX0 2 f fd ["self", "habit"] (spBhI C) := by
  refine F.ok scBhI (fun vs H Q E h => ?_) (fun cdv A outer s H vs Q E hr h => ?_)
  · obtain ⟨a, z, rfl, _⟩ := h
    rfl
  · obtain ⟨a, z, rfl, ha, k⟩ := h
    refine ⟨_, PSs.nox (pss_one (Ge.ps_ostT (pv 0) (pe_cal cC hr (pa_cons (pv 1) pa_nil)))), ?_⟩
    refine ⟨_, rfl, _, rfl, plain_str z, ?_⟩
    refine ⟨_, rfl, a, C, _, _, rfl, T.oex, T.nH, ha, fun d nd da => ?_⟩
    refine k d _ nd da (fun b o n e => ?_) upd_same ?_
    · rw [upd_ne n, upd_ne (ne_of_none e nd)]
      exact e
    · rw [upd_ne da]
      exact upd_same
structure BhT (P : Program) (w : World) (K : PySem.W.Frag) (mg : Str → Option Value) (base : Heap) (C : Addr) : Prop where
  ex : ∃ newId f fd, TxtBh K mg C newId ∧ ExcBaseFacts "ValueError" newId "ValueError.__init__" Ge.vlTail ∧ PySem.W.findIn K (.ref C) "__init__" = some (some (.ref f)) ∧ PySem.W.typeIn K (.ref f) = some (.type "function") ∧ FnOk P w K mg base CX0 2 f fd ["self", "habit"] (spBhI C) ∧ Binds K fd ["self", "habit"] []
end
section
variable {X : Cx} {C : Addr} {e1 : Expr} {t : TA} {p pos pos2 : Pos} {W : WX}
theorem ps_badhab (B : BhT X.prog X.w X.K X.mg X.base C) (hc : X.calm = true) (hr : Room 3 X.A) (tk : L2.Takes X W) (ha : PA X [e1] t) (hg : Gl X "BadHabit" := by rfl)
    (he : starEach [e1] X.env = (false, eval e1 X.env) :: starEach [] X.env := by rfl) (hpl : (backTo pos (starEach [] X.env)).any (·.1) = false := by rfl) :
    PS X (.Raise (some (.Call (.Name "BadHabit" p) [e1] [] pos)) none pos2) (fun _ σ H => tMkO C (spBhI C) [] t σ H fun cls d H' => W cls d σ H') := by
  obtain ⟨newId, f, fd, T, B2, h1, h2, F, b⟩ := B.ex
  exact L2.ps_raise hc tk (Lm.pmk_c (Ge.pmk_T B2 T.oex h1 h2 F hr b .nil pass0 T.gB ha hg (by decide) he hpl))
end
theorem badhab_tail {C : Addr} {z : Str} {H : Hp} {E : XK}
    (k : ∀ d G, H d = none → Same H G → G d = some (.xd (habF z)) → E (.ref C) (some d) G) :
    ([.str z] : List V).length ≤ 1000 ∧ ∀ a, H a = none → spBhI C (.ref a :: ([.str z] ++ [])) (upd H a (exo a C none)) (fun v H2 => v = .non ∧ ∃ (d : Addr) (fs : List (Str × V)), H2 a = some (exo a C (some d)) ∧ H2 d = some (exd d fs) ∧ H d = none ∧ E (.ref C) (some d) (upd (del H2 a) d (.xd fs))) (fun _ _ _ => False) := by
  refine ⟨by show 1 ≤ 1000; decide, fun a na => ?_⟩
  have s0 := Lw.Same.new (o := exo a C none) (Same.refl H) na
  refine ⟨a, z, rfl, upd_same, fun d G nd da kG ga gd => ⟨rfl, d, habF z, ga, gd, ?_, ?_⟩⟩
  · rw [upd_ne da] at nd
    exact nd
  · rw [upd_ne da] at nd
    refine k d _ nd (fun b o2 e => ?_) upd_same
    have ba := ne_of_none e na
    rw [upd_ne (ne_of_none e nd), del_ne ba]
    exact kG b o2 ba (s0 _ _ e)
section
variable {P : Program} {w : World} {K : PySem.W.Frag} {mg : Str → Option Value} {base : Heap}
/-! habits made of any values -/
def HabAtV (CH : Addr) (H : Hp) (h : Addr) (y : Hv) : Prop := ∃ dx, H h = some (.ins CH dx [("present", y.pr), ("lacking", y.la), ("gone", y.go), ("shared", y.sh)])
structure TxtHb (K : PySem.W.Frag) (CH : Addr) : Prop where
  cl : Cls K CH
  n1 : NoAttr K CH "present"
  n2 : NoAttr K CH "lacking"
  n3 : NoAttr K CH "gone"
  n4 : NoAttr K CH "shared"
def spHabV (CH CB : Addr) : Sp := fun vs H Q E => ∃ (p dx a : Addr) (y : Hv), vs = [.ref p, y.pr, y.la, y.go, y.sh] ∧ H p = some (.ins CH dx []) ∧ PlH a H y ∧ (∀ z r, wrongs y = z :: r → ∀ d G, H d = none → Same H G → G d = some (.xd (habF z)) → E (.ref CB) (some d) G) ∧
  (wrongs y = [] → ∀ G, Keep p H G → HabAtV CH G p y → Q .non G)
abbrev nHabI : List Str := ["self", "present", "lacking", "gone", "shared", "told", "habit"]
abbrev HabD (K : PySem.W.Frag) (f : Addr) (fd : FuncData) : Prop := FunD K "__init__" "Habits.__init__" (defArgs sHabI) (defBody sHabI) (defScope sHabI) [] [("present", .str "stop"), ("lacking", .str "stop"), ("gone", .str "stop"), ("shared", .str "one")] f fd
theorem scHabI : FnScope nHabI ["self", "present", "lacking", "gone", "shared"] (defScope sHabI) := ⟨rfl, rfl, rfl, by decide +kernel, rfl, by decide +kernel, by decide +kernel⟩
def toldV (y : Hv) : List (Key × V) := [(Sum.inr "present", y.pr), (Sum.inr "lacking", y.la), (Sum.inr "gone", y.go), (Sum.inr "shared", y.sh)]
theorem told_of (y : Hv) {z : Str} (h : z ∈ habNames) : valV (mergeK [] (toldV y)) (Sum.inr z) = some (y.of z) := by
  rcases List.mem_cons.mp h with rfl | h
  · rfl
  rcases List.mem_cons.mp h with rfl | h
  · rfl
  rcases List.mem_cons.mp h with rfl | h
  · rfl
  rcases List.mem_cons.mp h with rfl | h
  · rfl
  cases h
theorem vals_mem {z : Str} (h : z ∈ habNames) : (z, valsOf z) ∈ habVals := by
  rcases List.mem_cons.mp h with rfl | h
  · decide
  rcases List.mem_cons.mp h with rfl | h
  · decide
  rcases List.mem_cons.mp h with rfl | h
  · decide
  rcases List.mem_cons.mp h with rfl | h
  · decide
  cases h
theorem ok_habV {CH CB dV f : Addr} {fd : FuncData} (F : HabD K f fd) (T : TxtHb K CH) (B : BhT P w K mg base CB) (V4 : HabV K w mg dV) : FnOk P w K mg base (L2.CX P w) 4 f fd ["self", "present", "lacking", "gone", "shared"] (spHabV CH CB) := by
  refine F.ok scHabI (fun vs H Q E h => ?_) (fun cdv A outer s H vs Q E hr h => ?_)
  · obtain ⟨p, dx, a, y, rfl, _⟩ := h
    rfl
  · obtain ⟨p, dx, a, y, rfl, hp, py, kE, k⟩ := h
    have nd := scHabI.nd
    have hu := hu_of hr
    refine ⟨_, (pss_cons (ps_set (i := 5) nd rfl (Or.inl rfl) (pe_disp (pps_cons pe_str (pv 1) (pps_cons pe_str (pv 2) (pps_cons pe_str (pv 3) (pps_cons pe_str (pv 4) pps_nil)))) (by rfl) (by rfl) (fun z => by cases z) (by decide)))
      (pss_cons (ps_for (L2.passes_of rfl) rfl (Kd.pi_kd V4.ky (pe_glob (v := .ref dV) rfl V4.gV rfl)) (pg_name (i := 6) nd rfl (Or.inl rfl))
        (pss_one (ps_if (pt_cmpR (r := Iw.rInW K true) (by exact Iw.op_notInW hr.units) (pe_dget hu (pv 5) (pv 6) (fun _ _ => rfl)) (pe_ix (by exact ix_kdict) (pe_glob (v := .ref dV) rfl V4.gV rfl) (pv 6) (fun _ _ => rfl)) (by rfl)) (pss_one (ps_badhab B rfl hr (L2.takes_of rfl rfl rfl rfl) (pa_cons (pv 6) pa_nil))) pss_nil)))
      (pss_cons (ps_fld (pv 0) (pv 1) rfl) (pss_cons (ps_fld (pv 0) (pv 2) rfl) (pss_cons (ps_fld (pv 0) (pv 3) rfl) (pss_one (ps_fld (pv 0) (pv 4) rfl)))))))  , ?_⟩
    refine sq_set (fun x G => ∃ t, x = .ref t ∧ H t = none ∧ Same H G ∧ G t = some (.dK (mergeK [] (toldV y)))) (fun Q q => ?_) ?_
    · intro t nt
      refine ⟨_, rfl, _, rfl, _, rfl, _, rfl, upd_same, toldV y, rfl, (by show 4 ≤ 15; decide), q _ _ ⟨t, rfl, nt, same_at nt (Lw.Same.new (Same.refl H) nt), upd_same⟩⟩
    rintro _ G ⟨t, rfl, nt, sG, gt⟩
    refine ⟨rfl, ?_⟩
    refine for_it (Kd.walk_kd (zs := habNames)) (fun i σ G2 => G = G2 ∧ (∀ j x, j < i → habNames[j]? = some x → gd y x = true) ∧ ∃ v6 : Option V, σ = [some (.ref p), some y.pr, some y.la, some y.go, some y.sh, some (.ref t), v6]) ⟨rfl, fun j x h => absurd h (Nat.not_lt_zero _), _, rfl⟩ (fun _ _ _ _ _ => trivial) ?_ ?_
    · rintro i x σ G2 G3 hi ⟨rfl, bef, v6, rfl⟩ ⟨rfl, z, hz, rfl⟩
      have hm : z ∈ habNames := List.mem_of_getElem? hz
      obtain ⟨b, h1, h2⟩ := V4.at_ _ (vals_mem hm)
      refine ⟨_, rfl, _, rfl, t, y.of z, rfl, .inl ⟨_, Sum.inr z, .inl gt, rfl, (told_of y hm).symm⟩, _, rfl, dV, z, .ref b, rfl, rfl, h1, ?_⟩
      refine notIn_of ((py.same sG).of z) (.inr (h2 _)) ⟨_, rfl, ?_⟩
      cases hg : gdL (valsOf z) (y.of z) with
      | true =>
        refine itFb rfl ⟨rfl, fun j x hj hx => ?_, _, rfl⟩
        rcases Nat.lt_or_eq_of_le (Nat.le_of_lt_succ hj) with hj | rfl
        · exact bef j x hj hx
        · rw [hz] at hx
          cases hx
          exact hg
      | false =>
        refine itTb rfl ⟨_, rfl, badhab_tail fun d G4 nd s g => ?_⟩
        obtain ⟨r, e⟩ := wrongs_at hz bef hg
        exact kE z r e d G4 (none_of_same sG nd) (sG.trans s) g
    · rintro σ G2 ⟨rfl, bef, v6, rfl⟩
      have e0 : wrongs y = [] := wrongs_nil.mpr fun h hh => by
        obtain ⟨j, hj⟩ := List.getElem?_of_mem hh
        exact bef j h (List.getElem?_eq_some_iff.mp hj).1 hj
      have gp := sG _ _ hp
      refine ⟨_, rfl, _, rfl, p, CH, dx, _, rfl, gp, T.cl, T.n1, (by show 0 < 1000; decide), ?_⟩
      refine ⟨_, rfl, _, rfl, p, CH, dx, _, rfl, upd_same, T.cl, T.n2, (by show 1 < 1000; decide), ?_⟩
      refine ⟨_, rfl, _, rfl, p, CH, dx, _, rfl, upd_same, T.cl, T.n3, (by show 2 < 1000; decide), ?_⟩
      refine ⟨_, rfl, _, rfl, p, CH, dx, _, rfl, upd_same, T.cl, T.n4, (by show 3 < 1000; decide), ?_⟩
      refine k e0 _ (fun a o n e => ?_) ⟨dx, upd_same⟩
      rw [upd_ne n, upd_ne n, upd_ne n, upd_ne n]
      exact sG _ _ e
end
end Lw

set_option Elab.async false
set_option linter.all false
set_option maxRecDepth 100000
set_option maxHeartbeats 40000000
namespace Lw
open PySem PySem.Spec PyProof.Rows L2
abbrev sSource : Stmt := top 10
abbrev sDraw : Stmt := top 11
abbrev sPick : Stmt := top 12
abbrev sWord : Stmt := top 13
section
variable {P : Program} {w : World} {K : PySem.W.Frag} {mg : Str → Option Value} {base : Heap}
theorem scSource : FnScope ["script", "at", "cell", "great"] ["script", "at"] (defScope sSource) := ⟨rfl, rfl, rfl, by decide +kernel, rfl, by decide +kernel, by decide +kernel⟩
theorem ok_source {f : Addr} {fd : FuncData} (F : FnP K "_law_source" sSource f fd) (T : TxtD mg) (hsum : mg "sum" = none) : FnOk P w K mg base CX0 1 f fd ["script", "at"] (spSource K) := by
  refine F.ok scSource (fun vs H Q E h => ?_) (fun cdv A outer s H vs Q E hr h => ?_)
  · obtain ⟨a, ns, i, rfl, _⟩ := h
    rfl
  · obtain ⟨a, ns, i, rfl, hS, hl, i0, i1, k⟩ := h
    refine ⟨_, PSs.nox (pss_cons (ps_set (i := 2) scSource.nd rfl (Or.inl rfl) (pe_ifExp (pt_cmpR op_lt (pv 1) (pe_callB call_len_seq (by rfl) T.len PySem.boot_len (pa_cons (pv 0) pa_nil)) (nomark _)) (pe_callTy call_int1 (by rfl) T.int (by decide +kernel) (pa_cons (pe_ix ix_list (pv 0) (pv 1) (fun _ _ => rfl)) pa_nil))
        (pe_op op_modN (pe_callTy call_int1 (by rfl) T.int (by decide +kernel) (pa_cons (pe_callB (cr_sum rfl) (by rfl) hsum (by decide +kernel) (pa_cons (pe_slice sl_list (pv 0) po_none (po_some pe_int)) pa_nil)) pa_nil)) pe_int)))
      (pss_cons (ps_set (i := 3) scSource.nd rfl (Or.inl rfl) (pe_ifExp (pt_cmpR op_ge (pe_callB call_abs (by rfl) T.abs (by decide +kernel) (pa_cons (pv 2) pa_nil)) (pe_op op_pow pe_int pe_int) (nomark _)) (pe_callB call_abs (by rfl) T.abs (by decide +kernel) (pa_cons (pv 2) pa_nil)) pe_int))
      (pss_one (ps_ret (pe_lst (pa_cons (pv 3) (pa_cons (pe_op op_add (pe_op op_add (pe_op op_modN (pe_callTy call_int1 (by rfl) T.int (by decide +kernel) (pa_cons (pv 2) pa_nil)) pe_int) (pe_op op_mul pe_int (pv 1))) pe_int) (pa_cons pe_int pa_nil)))))))), ?_⟩
    refine sq_set (fun x H' => Same H H' ∧ ∃ c : Int, x = .int c) (fun Q q => ?_) ?_
    · refine ⟨_, rfl, _, rfl, a, _, rfl, .inl hS, _, _, rfl, rfl, _, rfl, ?_⟩
      refine bool_ite (fun c => ?_) (fun c => ?_)
      · obtain ⟨x, hx, hm⟩ := atI_get (xs := ns.map V.int) i0 (by simpa using c)
        obtain ⟨z, _, rfl⟩ := List.mem_map.mp hm
        exact ⟨_, rfl, _, rfl, a, _, _, _, rfl, rfl, hS, hx, .inl ⟨_, rfl, q _ _ ⟨Same.refl H, z, rfl⟩⟩⟩
      · refine ⟨_, rfl, 1, rfl, a, _, rfl, hS, fun p hp => ?_⟩
        obtain ⟨ms, hms, hml⟩ := cutV_ints ns none (some 1)
        refine ⟨p, ms, rfl, SqL.of (by rw [← hms]; exact upd_same), ?_⟩
        exact .inl ⟨_, rfl, _, _, rfl, rfl, (by show (1000003 : Int) ≠ 0; decide), q _ _ ⟨Lw.Same.new (Same.refl H) hp, _, rfl⟩⟩
    rintro _ H1 ⟨s1, c, rfl⟩
    refine sq_set (fun x H' => H1 = H' ∧ ∃ d : Int, x = .int d ∧ 0 ≤ d) (fun Q q => ?_) ?_
    · refine ⟨_, rfl, _, rfl, _, _, rfl, rfl, ⟨by decide, by decide, by decide⟩, _, _, rfl, rfl, _, rfl, ?_⟩
      refine bool_ite (fun _ => ?_) (fun _ => ?_)
      · exact ⟨_, rfl, _, rfl, q _ _ ⟨rfl, _, rfl, by split <;> omega⟩⟩
      · exact q _ _ ⟨rfl, 0, rfl, by decide⟩
    rintro _ _ ⟨rfl, d, rfl, d0⟩
    refine ⟨_, rfl, _, rfl, .inl ⟨_, rfl, _, _, rfl, rfl, (by show (2305843009213693951 : Int) ≠ 0; decide), _, rfl, _, _, rfl, rfl, .inl ⟨by decide, by decide⟩, _, _, rfl, rfl, _, _, rfl, rfl, (by show 3 ≤ sizeLine; decide), fun p hp => ?_⟩⟩
    have hb := fmod_src c
    exact k p _ (none_of_same s1 hp) (Lw.Same.new s1 hp) ⟨d, _, 0, upd_same, d0, by omega, by omega, by decide, by decide⟩
theorem scDraw : FnScope ["source", "many", "digit", "mixed"] ["source", "many"] (defScope sDraw) := ⟨rfl, rfl, rfl, by decide +kernel, rfl, by decide +kernel, by decide +kernel⟩
theorem ok_draw {f : Addr} {fd : FuncData} (F : FnP K "_law_draw" sDraw f fd) (T : TxtD mg) : FnOk P w K mg base CX0 1 f fd ["source", "many"] spDrawW := by
  refine F.ok scDraw (fun vs H Q E h => ?_) (fun cdv A outer s H vs Q E hr h => ?_)
  · obtain ⟨a, n, m, rfl, _⟩ := h
    rfl
  · obtain ⟨a, n, m, rfl, ⟨d, s', t, hA, d0, s0, s1, t0, t1⟩, hn, m0, m1, k⟩ := h
    have hu := hu_of hr
    have nd := scDraw.nd
    refine ⟨_, PSs.nox (pss_cons (ps_if (pt_cmpR op_gt (pe_ix ix_list (pv 0) pe_int (fun _ _ => rfl)) pe_int (nomark _))
        (pss_cons (ps_set (i := 2) nd rfl (Or.inl rfl) (pe_op op_modN (pe_callTy call_int1 (by rfl) T.int (by decide +kernel) (pa_cons (pe_ix ix_list (pv 0) pe_int (fun _ _ => rfl)) pa_nil)) (pv 1)))
          (pss_cons (ps_asg (pe_op op_fdivW (pe_ix ix_list (pv 0) pe_int (fun _ _ => rfl)) (pv 1)) (pg_sub (pv 0) pe_int set_list)) (pss_one (ps_ret (pv 2))))) pss_nil)
      (pss_cons (ps_asg (pe_op op_add (pe_ix ix_list (pv 0) pe_int (fun _ _ => rfl)) pe_int) (pg_sub (pv 0) pe_int set_list))
      (pss_cons (ps_set (i := 3) nd rfl (Or.inl rfl) (pe_op op_modN (pe_callTy call_int1 (by rfl) T.int (by decide +kernel) (pa_cons (pe_op op_add (pe_op op_pow (pe_op op_add (pe_ix ix_list (pv 0) pe_int (fun _ _ => rfl)) (pe_op op_mul pe_int (pe_ix ix_list (pv 0) pe_int (fun _ _ => rfl)))) pe_int) (pe_op op_mul pe_int (pe_ix ix_list (pv 0) pe_int (fun _ _ => rfl)))) pa_nil)) pe_int))
      (pss_cons (ps_set (i := 3) nd rfl (Or.inl rfl) (pe_op op_modN (pe_callTy call_int1 (by rfl) T.int (by decide +kernel) (pa_cons (pe_op op_add (pe_op op_pow (pe_op op_add (pv 3) (pe_op op_mul pe_int (pe_ix ix_list (pv 0) pe_int (fun _ _ => rfl)))) pe_int) (pe_op op_mul pe_int (pv 3))) pa_nil)) pe_int))
      (pss_one (ps_ret (pe_op op_modN (pe_callTy call_int1 (by rfl) T.int (by decide +kernel) (pa_cons (pe_op op_fdivN (pv 3) pe_int) pa_nil)) (pv 1)))))))), ?_⟩
    have zA : ∀ (r : Int), 0 ≤ r.fmod m ∧ r.fmod m < m := fun r => ⟨Int.fmod_nonneg_of_pos r m0, Int.fmod_lt_of_pos r m0⟩
    have mz : m ≠ 0 := by omega
    refine sq_if (fun b H' => H = H' ∧ b = decide (0 < d)) (fun Q q => ?_) ?_ ?_
    · exact ⟨_, rfl, a, _, _, _, rfl, rfl, SqL.of hA, rfl, _, _, rfl, rfl, _, rfl, q _ _ ⟨rfl, rfl⟩⟩
    · rintro _ ⟨rfl, c⟩
      refine ⟨_, rfl, a, _, _, _, rfl, rfl, SqL.of hA, rfl, .inl ⟨_, rfl, _, rfl, _, _, rfl, rfl, mz, ?_⟩⟩
      refine ⟨_, rfl, a, _, _, _, rfl, rfl, SqL.of hA, rfl, _, rfl, _, _, rfl, rfl, wide_div m0 m1 (by decide) (by decide), _, rfl, a, _, _, _, rfl, rfl, hA, rfl, _, rfl, ?_⟩
      exact k _ _ (Keep.refl H).upd ⟨_, _, _, upd_same, Int.ediv_nonneg d0 (by omega), s0, s1, t0, by omega⟩ (zA d).1 (zA d).2
    · rintro _ ⟨rfl, c⟩
      refine ⟨_, rfl, a, _, _, _, rfl, rfl, SqL.of hA, rfl, _, _, rfl, rfl, _, rfl, a, _, _, _, rfl, rfl, hA, rfl, ?_⟩
      dsimp only
      refine sq_set (fun x H' => upd H a (.lst [.int d, .int s', .int (t + 1)]) = H' ∧ ∃ z : Int, x = .int z ∧ 0 ≤ z ∧ z < 2305843009213693951) (fun Q q => ?_) ?_
      · refine ⟨_, rfl, a, _, _, _, rfl, rfl, SqL.of upd_same, rfl, _, rfl, a, _, _, _, rfl, rfl, SqL.of upd_same, rfl, _, _, rfl, rfl, .inl ⟨by decide, by decide⟩, _, _, rfl, rfl, _, _, rfl, rfl, ⟨by decide, by decide, ?_⟩, _, rfl, a, _, _, _, rfl, rfl, SqL.of upd_same, rfl, _, _, rfl, rfl, .inl ⟨by decide, by decide⟩, _, _, rfl, rfl,
          .inl ⟨_, rfl, _, _, rfl, rfl, (by show (2305843009213693951 : Int) ≠ 0; decide), ?_⟩⟩
        · show (s' + 15485863 * (t + 1)).natAbs < 2 ^ 64
          omega
        · exact q _ _ ⟨rfl, _, rfl, (fmod_src _).1, (fmod_src _).2⟩
      rintro _ _ ⟨rfl, z, rfl, z0, z1⟩
      refine sq_set (fun x H' => upd H a (.lst [.int d, .int s', .int (t + 1)]) = H' ∧ ∃ z : Int, x = .int z ∧ 0 ≤ z ∧ z < 2305843009213693951) (fun Q q => ?_) ?_
      · refine ⟨_, rfl, _, rfl, a, _, _, _, rfl, rfl, SqL.of upd_same, rfl, _, _, rfl, rfl, .inl ⟨by decide, by decide⟩, _, _, rfl, rfl, _, _, rfl, rfl, ⟨by decide, by decide, ?_⟩, _, rfl, _, _, rfl, rfl, .inl ⟨by decide, by decide⟩, _, _, rfl, rfl,
          .inl ⟨_, rfl, _, _, rfl, rfl, (by show (2305843009213693921 : Int) ≠ 0; decide), ?_⟩⟩
        · show (z + 32452867 * (t + 1)).natAbs < 2 ^ 64
          omega
        · refine q _ _ ⟨rfl, _, rfl, Int.fmod_nonneg_of_pos _ (by show (0 : Int) < 2305843009213693921; decide), ?_⟩
          exact Int.lt_trans (Int.fmod_lt_of_pos _ (by show (0 : Int) < 2305843009213693921; decide)) (by decide)
      rintro _ _ ⟨rfl, y, rfl, y0, y1⟩
      refine ⟨_, rfl, _, _, rfl, rfl, ⟨by decide, by decide⟩, .inl ⟨_, rfl, _, rfl, _, _, rfl, rfl, mz, ?_⟩⟩
      exact k _ _ ((Keep.refl H).upd) ⟨_, _, _, upd_same, d0, by omega, by omega, by omega, by omega⟩ (zA _).1 (zA _).2
theorem cal_draw (T : TxtD mg) (D : DefIs K mg "_law_draw" sDraw) : Cal P w K mg base CX0 "_law_draw" 1 ["source", "many"] spDrawW := by
  obtain ⟨f, fd, hm, F⟩ := D
  exact ⟨f, fd, hm, F.kp, ok_draw F T, F.bindsN fun _ _ _ _ _ _ us hl => match us, hl with | [_, _], _ => rfl⟩
theorem scPick : FnScope ["source", "some"] ["source", "some"] (defScope sPick) := ⟨rfl, rfl, rfl, by decide +kernel, rfl, by decide +kernel, by decide +kernel⟩
theorem ok_pick {f : Addr} {fd : FuncData} (F : FnP K "_law_pick" sPick f fd) (T : TxtD mg) (cD : Cal P w K mg base CX0 "_law_draw" 1 ["source", "many"] spDrawW) : FnOk P w K mg base CX0 2 f fd ["source", "some"] (spOf K) := by
  refine F.ok scPick (fun vs H Q E h => ?_) (fun cdv A outer s H vs Q E hr h => ?_)
  · obtain ⟨a, b, n, xs, rfl, _⟩ := h
    rfl
  · obtain ⟨a, b, n, xs, rfl, hs, hn, ba, hb, x0, x1, k⟩ := h
    refine ⟨_, PSs.nox (pss_one (ps_ret (pe_ix ix_list (pv 1) (pe_cal cD hr (pa_cons (pv 0) (pa_cons (pe_callB call_len_seq (by rfl) T.len PySem.boot_len (pa_cons (pv 1) pa_nil)) pa_nil))) (fun _ _ => rfl)))), ?_⟩
    have xl : 0 < xs.length := List.length_pos_iff.mpr x0
    refine ⟨_, rfl, _, rfl, _, rfl, b, _, rfl, .inl hb, a, n, _, rfl, hs, hn, by omega, small_m (by omega), fun H' i kp sr i0 i1 => ?_⟩
    obtain ⟨x, hx, hm⟩ := atI_get i0 i1
    exact ⟨b, _, _, _, rfl, rfl, kp.seq ba hb, hx, k _ _ kp sr hm⟩
abbrev nWord2 : List Str := ["source", "taken", "letters", "word", "letter", "turn"]
theorem scWord : FnScope nWord2 ["source", "taken"] (defScope sWord) := ⟨rfl, rfl, rfl, by decide +kernel, rfl, by decide +kernel, by decide +kernel⟩
theorem ok_word {f : Addr} {fd : FuncData} (F : FnP K "_law_word" sWord f fd) (T : TxtD mg) (cD : Cal P w K mg base CX0 "_law_draw" 1 ["source", "many"] spDrawW) : FnOk P w K mg base CX0 2 f fd ["source", "taken"] (spWord2 K) := by
  refine F.ok scWord (fun vs H Q E h => ?_) (fun cdv A outer s H vs Q E hr h => ?_)
  · obtain ⟨a, b, n, ts, rfl, _⟩ := h
    rfl
  · obtain ⟨a, b, n, ts, rfl, hs, hn, ba, hb, hts, k⟩ := h
    have nd := scWord.nd
    refine ⟨_, PSs.nox (pss_cons (ps_set (i := 2) nd rfl (Or.inr rfl) pe_str)
      (pss_cons (ps_set (i := 3) nd rfl (Or.inl rfl) (pe_join pe_str (pe_lc (own := [("turn", 5)]) (g := gName 5) (tt := tYes) rfl nd (pi_range1 rfl T.range (pa_cons (pe_op op_add pe_int (pe_cal cD hr (pa_cons (pv 0) (pa_cons pe_int pa_nil)))) pa_nil))
        (blkOk_by (N := nWord2) (sc := defScope sWord) (by decide +kernel)) (fun _ _ _ _ _ => pg_name (i := 5) nd rfl (Or.inl rfl)) (fun _ _ _ _ _ => pts_nil) (fun _ _ _ _ _ => pe_ix ix_str (pv 2) (pe_cal cD hr (pa_cons (pv 0) (pa_cons pe_int pa_nil))) (fun _ _ => rfl)))))
      (pss_cons (ps_for PassesOwn.never rfl (pi_str (pv 2)) (pg_name (i := 4) nd rfl (Or.inl rfl))
        (pss_one (ps_if (pt_cmpR op_in_seq (pv 3) (pv 1) rfl) (pss_one (ps_set (i := 3) nd rfl (Or.inl rfl) (pe_op op_add_str (pv 4) (pe_slice sl_str (pv 3) (po_some pe_int) po_none)))) pss_nil)))
      (pss_one (ps_ret (pv 3)))))), ?_⟩
    refine sq_set (fun x H' => H = H' ∧ x = .str letters) (fun Q q => q _ _ ⟨rfl, rfl⟩) ?_
    rintro _ _ ⟨rfl, rfl⟩
    refine sq_set (fun x H' => ∃ z, x = .str z ∧ IsWord z ∧ Keep a H H' ∧ Src H' a (n + 10)) (fun Q q => ?_) ?_
    · refine ⟨⟨_, rfl⟩, _, rfl, a, n, _, rfl, hs, by omega, by decide, by decide, fun H1 i k1 s1 i0 i1 => ⟨_, _, rfl, rfl, _, rfl, by omega, by omega, fun D hD => ?_⟩⟩
      have Da : D ≠ a := s1.ne hD
      refine lc_range (lo := 0) (n := (1 + i).toNat) (fun j H' => ∃ cs : List Nat, H' D = some (.lst ((cs.map sign).map V.str)) ∧ cs.length = j ∧ (∀ c ∈ cs, c ∈ abc) ∧ Keep a H H' ∧ Src H' a (n + 1 + j))
        ⟨[], upd_same, rfl, fun _ h => (List.not_mem_nil h).elim, k1.new hD, s1.new hD⟩ ?_ ?_
      · rintro j H' hj ⟨cs, hd, hl, ha, k2, s2⟩
        refine ⟨rfl, _, rfl, _, rfl, a, _, _, rfl, s2, by omega, by decide, by decide, fun H3 i3 k3 s3 j0 j1 => ?_⟩
        obtain ⟨c, hc, hm⟩ := abc_at j0 j1
        have hd3 := k3 _ _ Da hd
        refine ⟨_, _, c, rfl, rfl, (by show letters.cps.size ≤ sizeLine; rw [letters_cps]; decide), hc, _, hd3, by simp only [List.length_map, hl]; exact small1000 (by omega), cs ++ [c], ?_, by simp [hl], fun x hx => ?_, ?_, ?_⟩
        · rw [upd_same]; simp [sign]
        · rcases List.mem_append.mp hx with h | h
          · exact ha x h
          · rw [List.mem_singleton.mp h]; exact hm
        · intro b' o nb ho
          have e := k3 b' o nb (k2 b' o nb ho)
          by_cases hbD : b' = D
          · exfalso
            rw [hbD] at ho nb
            have := k1 D o nb ho
            rw [hD] at this
            cases this
          · rw [upd_ne hbD]; exact e
        · obtain ⟨d, s', t, h1, h2⟩ := s3
          exact ⟨d, s', t, by rw [upd_ne Da.symm]; exact h1, h2⟩
      · rintro H' ⟨cs, hd, hl, ha, k2, s2⟩
        refine ⟨_, D, cs.map sign, rfl, rfl, .inl (SqL.of hd), ?_, ?_⟩
        · have e1 : ((cs.map sign).map (·.length)).sum = cs.length := by
            clear hd hl ha
            induction cs with
            | nil => rfl
            | cons c r ih => simp only [List.map_cons, List.sum_cons, ih, List.length_cons]; show 1 + _ = _; omega
          have e2 : (PySem.Str.ofString "").length = 0 := by decide +kernel
          rw [e1, e2]
          omega
        · have e : (Txt.join (PySem.Str.ofString "") (cs.map sign)).cps.toList = cs := join_signs _ (by decide +kernel) cs
          refine q _ _ ⟨_, rfl, ⟨?_, ?_, ?_⟩, k2, s2.mono (by omega)⟩
          · rw [len_tl, e]; omega
          · rw [len_tl, e]; omega
          · rw [e]; exact fun c hc => abc_le (ha c hc)
    rintro _ H1 ⟨z, rfl, hz, k1, s1⟩
    have hb1 := k1.seq ba hb
    refine ⟨_, rfl, letters, rfl, ?_⟩
    refine for_it walk_str (fun j σ H' => H1 = H' ∧ ∃ (y : Str) (v4 v5 : Option V), σ = [some (.ref a), some (.ref b), some (.str letters), some (.str y), v4, v5] ∧ WInv z ts j y) ⟨rfl, z, _, _, rfl, WInv.zero hz⟩ (fun _ _ _ _ _ => trivial) ?_ ?_
    · rintro j x σ H' _ hj ⟨rfl, y, v4, v5, rfl, hw⟩ ⟨rfl, c, hc, rfl⟩
      have hc2 : abc[j]? = some c := by
        rw [letters_cps] at hc
        simpa using hc
      refine g_name ?_
      refine ⟨_, rfl, _, rfl, b, _, rfl, .inl hb1, rfl, flat_strs ts, _, rfl, str_mem (fun hin => ?_) (fun hni => ?_)⟩
      · have hw2 := hw.word
        have h9 : sizeLine = 16777216 := by decide
        refine ⟨_, rfl, _, rfl, 1, rfl, _, rfl, ?_, _, _, rfl, rfl, ?_, ?_⟩
        · have := hw2.2.1
          omega
        · have := hw2.2.1
          have e1 : (cand1 y c).length = 1 + (cutS y (some 1) none).length := by
            show (sign c ++ _).length = _
            rw [len_tl, tl_app, List.length_append, ← len_tl (cutS y (some 1) none)]
            rfl
          have e2 := (hw.step hin hc2).word.2.1
          show 1 + _ ≤ _
          omega
        · exact ⟨rfl, _, _, _, rfl, hw.step hin hc2⟩
      · exact ⟨rfl, y, _, _, rfl, hw.stay hni⟩
    · rintro σ H' ⟨rfl, y, v4, v5, rfl, hw⟩
      have e : letters.cps.size = 26 := by rw [letters_cps]; rfl
      rw [e] at hw
      exact ⟨_, rfl, k _ _ k1 s1 hw.word (hw.done hts)⟩
end
end Lw

set_option Elab.async false
set_option linter.all false
set_option maxRecDepth 100000
set_option maxHeartbeats 40000000
namespace Lw
open PySem PySem.Spec PyProof.Rows L2
abbrev sValue : Stmt := top 18
section
variable {P : Program} {w : World} {K : PySem.W.Frag} {mg : Str → Option Value} {base : Heap}
/-! a value of a habit, or any value -/
def spValue (K : PySem.W.Frag) : Sp := fun vs H Q _ => ∃ (a : Addr) (n : Nat) (h : Str), vs = [.ref a, .str h] ∧ h ∈ habNames ∧ Src H a n ∧ n ≤ 800000000 ∧ ∀ v G, Keep a H G → Src G a (n + 20) → PlV a G v → (∀ p, v = .ref p → H p = none) → Q v G
abbrev nValue : List Str := ["source", "habit", "odd"]
theorem scValue : FnScope nValue ["source", "habit"] (defScope sValue) := ⟨rfl, rfl, rfl, by decide +kernel, rfl, by decide +kernel, by decide +kernel⟩
abbrev odd1 (l t d m u : Addr) : List V := [.non, .int 0, .int 1, .bl true, .bl false, .str "", .str "Stop", .str "stop ", .str " all", .str "stops", .ref l, .ref t, .ref d, .ref m, .ref u, .str "al"]
theorem valsOf_ne (h : Str) : valsOf h ≠ [] ∧ (valsOf h).length ≤ 4 := by
  unfold valsOf
  split
  · exact ⟨by simp, by decide⟩
  split
  · exact ⟨by simp, by decide⟩
  split
  · exact ⟨by simp, by decide⟩
  · exact ⟨by simp, by decide⟩
theorem ok_value {f : Addr} {fd : FuncData} (F : FnP K "_law_value" sValue f fd) (cD : Cal P w K mg base CX0 "_law_draw" 1 ["source", "many"] spDrawW) (cP : Cal P w K mg base CX0 "_law_pick" 2 ["source", "some"] (spOf K)) (cW : Cal P w K mg base CX0 "_law_word" 2 ["source", "taken"] (spWord2 K))
    (cV : Cal P w K mg base CX0 "_law_values" 1 ["habit"] spValues) : FnOk P w K mg base CX0 3 f fd ["source", "habit"] (spValue K) := by
  refine F.ok scValue (fun vs H Q E h => ?_) (fun cdv A outer s H vs Q E hr h => ?_)
  · obtain ⟨a, n, h, rfl, _⟩ := h
    rfl
  · obtain ⟨a, n, h, rfl, hh, hs, hn, k⟩ := h
    have nd := scValue.nd
    have h1 : Room 1 _ := hr.mono (by decide)
    refine ⟨_, PSs.nox (pss_cons (ps_if (pt_cmpR op_gt (pe_cal cD h1 (pa_cons (pv 0) (pa_cons pe_int pa_nil))) pe_int (nomark _)) (pss_one (ps_ret (pe_cal cP hr (pa_cons (pv 0) (pa_cons (pe_cal cV h1 (pa_cons (pv 1) pa_nil)) pa_nil))))) pss_nil)
      (pss_cons (ps_set (i := 2) nd rfl (Or.inl rfl) (pe_lst (pa_cons pe_non (pa_cons pe_int (pa_cons pe_int (pa_cons pe_bl (pa_cons pe_bl (pa_cons pe_str (pa_cons pe_str (pa_cons pe_str (pa_cons pe_str (pa_cons pe_str (pa_cons (pe_lst (pa_cons pe_str pa_nil)) (pa_cons (pe_tup (pa_cons pe_str pa_nil)) (pa_cons (pe_disp (pps_cons pe_str pe_int pps_nil) (by rfl) (by rfl) (fun z => by cases z) (by decide))
        (pa_cons (pe_lst pa_nil) (pa_cons (pe_tup pa_nil) (pa_cons pe_str pa_nil))))))))))))))))))
      (pss_cons (ps_set (i := 2) nd rfl (Or.inl rfl) (pe_op op_cat (pv 2) (pe_lst (pa_cons pe_str (pa_cons pe_str (pa_cons pe_str (pa_cons pe_str (pa_cons pe_str (pa_cons pe_str (pa_cons pe_str (pa_cons pe_str (pa_cons (pe_cal cW hr (pa_cons (pv 0) (pa_cons (pe_lst pa_nil) pa_nil))) pa_nil))))))))))))
      (pss_one (ps_ret (pe_cal cP hr (pa_cons (pv 0) (pa_cons (pv 2) pa_nil)))))))), ?_⟩
    refine ⟨_, rfl, a, n, _, rfl, hs, by omega, by decide, by decide, fun G1 i k1 S1 i0 i1 => ⟨_, _, rfl, rfl, _, rfl, ?_⟩⟩
    by_cases hi : 0 < i
    · refine itTb (decide_eq_true hi) ⟨_, rfl, _, rfl, h, rfl, hh, fun l G2 s2 nl gl => ?_⟩
      obtain ⟨vn, vl⟩ := valsOf_ne h
      have S2 := S1.same s2
      refine ⟨a, l, _, _, rfl, S2, by omega, S1.ne nl, SqL.of gl, (fun e => vn (List.map_eq_nil_iff.mp e)), by rw [List.length_map]; omega, fun G3 x k3 S3 hx => ?_⟩
      obtain ⟨z, hz, rfl⟩ := List.mem_map.mp hx
      exact k _ _ (fun b o nb e => k3 _ _ nb (s2 _ _ (k1 _ _ nb e))) (S3.mono (by omega)) (.str z) (fun p e => by cases e)
    · refine itFb (decide_eq_false hi) ?_
      dsimp only [tNext]
      have back : ∀ {p : Addr} {G : Hp}, Keep a H G → p ≠ a → G p = none → H p = none := fun {p G} kp ne e => by
        cases q : H p with
        | none => rfl
        | some o => rw [kp _ _ ne q] at e; cases e
      have new1 : ∀ {p : Addr} {o : HO} {G : Hp}, Keep a H G ∧ Src G a (n + 1) → G p = none → (Keep a H (upd G p o) ∧ Src (upd G p o) a (n + 1)) ∧ p ≠ a ∧ H p = none := fun {p o G} kp e => ⟨⟨kp.1.new e, kp.2.new e⟩, kp.2.ne e, back kp.1 (kp.2.ne e) e⟩
      refine sq_set (fun x G2 => ∃ L l t d m u, x = .ref L ∧ Keep a H G2 ∧ Src G2 a (n + 1) ∧ L ≠ a ∧ G2 L = some (.lst (odd1 l t d m u)) ∧ (∀ p ∈ [l, t, d, m, u], p ≠ a ∧ H p = none ∧ Iw.Box G2 p)) (fun Q q => ?_) ?_
      · refine ⟨(by show 1 ≤ sizeLine; decide), fun l nl => ⟨(by show 1 ≤ sizeLine; decide), fun t nt => fun d nd2 => ⟨upd_same, [(.inr "one", .int 1)], rfl, (by show 1 ≤ 15; decide), ⟨(by show 0 ≤ sizeLine; decide), fun m nm => ⟨(by show 0 ≤ sizeLine; decide), fun u nu => ⟨(by show 16 ≤ sizeLine; decide), fun L nL => ?_⟩⟩⟩⟩⟩⟩
        obtain ⟨p1, la, lH⟩ := new1 (o := .lst [.str "stop"]) ⟨k1, S1⟩ nl
        have gl : (upd G1 l (.lst [.str "stop"])) l = some (.lst [.str "stop"]) := upd_same
        generalize upd G1 l (.lst [.str "stop"]) = A1 at nt nd2 nm nu nL p1 gl ⊢
        obtain ⟨p2, ta, tH⟩ := new1 (o := .tup [.str "keep"]) p1 nt
        have gt : (upd A1 t (.tup [.str "keep"])) t = some (.tup [.str "keep"]) := upd_same
        have s2 := Lw.Same.new (o := .tup [.str "keep"]) (Same.refl A1) nt
        generalize upd A1 t (.tup [.str "keep"]) = A2 at nd2 nm nu nL p2 gt s2 ⊢
        obtain ⟨p3, da, dH⟩ := new1 (o := .dK []) p2 nd2
        have s3 := same_new2 (o := .dK []) (u := .dK (mergeK [] [(.inr "one", .int 1)])) nd2
        have gd : (upd (upd A2 d (.dK [])) d (.dK (mergeK [] [(.inr "one", .int 1)]))) d = some (.dK (mergeK [] [(.inr "one", .int 1)])) := upd_same
        have p3 : Keep a H (upd (upd A2 d (.dK [])) d (.dK (mergeK [] [(.inr "one", .int 1)]))) ∧ Src (upd (upd A2 d (.dK [])) d (.dK (mergeK [] [(.inr "one", .int 1)]))) a (n + 1) := ⟨fun b o nb e => s3 _ _ (p2.1 _ _ nb e), p2.2.same s3⟩
        generalize upd (upd A2 d (.dK [])) d (.dK (mergeK [] [(.inr "one", .int 1)])) = A3 at nm nu nL p3 gd s3 ⊢
        obtain ⟨p4, ma, mH⟩ := new1 (o := .lst []) p3 nm
        have gm : (upd A3 m (.lst [])) m = some (.lst []) := upd_same
        have s4 := Lw.Same.new (o := .lst []) (Same.refl A3) nm
        generalize upd A3 m (.lst []) = A4 at nu nL p4 gm s4 ⊢
        obtain ⟨p5, ua, uH⟩ := new1 (o := .tup []) p4 nu
        have gu : (upd A4 u (.tup [])) u = some (.tup []) := upd_same
        have s5 := Lw.Same.new (o := .tup []) (Same.refl A4) nu
        generalize upd A4 u (.tup []) = A5 at nL p5 gu s5 ⊢
        obtain ⟨p6, La, LH⟩ := new1 (o := .lst (odd1 l t d m u)) p5 nL
        have s6 := Lw.Same.new (o := .lst (odd1 l t d m u)) (Same.refl A5) nL
        have s56 := s5.trans s6
        have s46 := s4.trans s56
        have s36 := s3.trans s46
        refine q _ _ ⟨L, l, t, d, m, u, rfl, p6.1, p6.2, La, upd_same, fun p hp => ?_⟩
        simp only [List.mem_cons, List.not_mem_nil, or_false] at hp
        rcases hp with rfl | rfl | rfl | rfl | rfl
        · exact ⟨la, lH, .lst (s36 _ _ (s2 _ _ gl))⟩
        · exact ⟨ta, tH, .tup (s36 _ _ gt)⟩
        · exact ⟨da, dH, .dic (s46 _ _ gd)⟩
        · exact ⟨ma, mH, .lst (s56 _ _ gm)⟩
        · exact ⟨ua, uH, .tup (s6 _ _ gu)⟩
      rintro _ G2 ⟨L, l, t, d, m, u, rfl, k2, S2, La, hL, hb⟩
      refine sq_set (fun x G3 => ∃ M z, x = .ref M ∧ Keep a H G3 ∧ Src G3 a (n + 11) ∧ M ≠ a ∧ G3 M = some (.lst (odd1 l t d m u ++ [.str "stop", .str "keep", .str "replace", .str "merge", .str "skip", .str "make", .str "one", .str "all", .str z])) ∧ (∀ p ∈ [l, t, d, m, u], p ≠ a ∧ H p = none ∧ Iw.Box G3 p)) (fun Q q => ?_) ?_
      · refine ⟨_, rfl, _, rfl, (by show 0 ≤ sizeLine; decide), fun e ne => ⟨a, e, _, [], rfl, S2.new ne, by omega, S2.ne ne, SqL.of upd_same, by decide, fun G3 z k3 S3 _ _ => ⟨(by show 9 ≤ sizeLine; decide), fun N nN => ?_⟩⟩⟩
        have kG : Keep a G2 G3 := fun b o nb h => k3 _ _ nb ((Lw.Same.new (Same.refl G2) ne) _ _ h)
        have S4 := S3.new (o := .lst [.str "stop", .str "keep", .str "replace", .str "merge", .str "skip", .str "make", .str "one", .str "all", .str z]) nN
        have sN := Lw.Same.new (o := .lst [.str "stop", .str "keep", .str "replace", .str "merge", .str "skip", .str "make", .str "one", .str "all", .str z]) (Same.refl G3) nN
        have gN : (upd G3 N (.lst [.str "stop", .str "keep", .str "replace", .str "merge", .str "skip", .str "make", .str "one", .str "all", .str z])) N = some (.lst [.str "stop", .str "keep", .str "replace", .str "merge", .str "skip", .str "make", .str "one", .str "all", .str z]) := upd_same
        generalize upd G3 N (.lst [.str "stop", .str "keep", .str "replace", .str "merge", .str "skip", .str "make", .str "one", .str "all", .str z]) = G4 at S4 sN gN ⊢
        have kH : Keep a H G4 := fun b o nb h => sN _ _ (kG _ _ nb (k2 _ _ nb h))
        refine ⟨L, N, _, _, rfl, rfl, sN _ _ (kG _ _ La hL), gN, (by show 25 ≤ sizeLine; decide), fun M nM => ?_⟩
        have sM := Lw.Same.new (o := .lst (odd1 l t d m u ++ [.str "stop", .str "keep", .str "replace", .str "merge", .str "skip", .str "make", .str "one", .str "all", .str z])) (Same.refl G4) nM
        refine q _ _ ⟨M, z, rfl, kH.new nM, (S4.new nM).mono (by omega), S4.ne nM, upd_same, fun p hp => ?_⟩
        obtain ⟨b1, b2, b3⟩ := hb p hp
        refine ⟨b1, b2, ?_⟩
        cases b3 with
        | lst h => exact .lst (sM _ _ (sN _ _ (kG _ _ b1 h)))
        | tup h => exact .tup (sM _ _ (sN _ _ (kG _ _ b1 h)))
        | dic h => exact .dic (sM _ _ (sN _ _ (kG _ _ b1 h)))
      rintro _ G3 ⟨M, z, rfl, k3, S3, Ma, hM, hb3⟩
      refine ⟨_, rfl, _, rfl, a, M, _, _, rfl, S3, by omega, Ma, SqL.of hM, by simp, (by show 25 ≤ 100000; decide), fun G4 x k4 S4 hx => ?_⟩
      have fin : ∀ v, PlV a G4 v → (∀ p, v = .ref p → H p = none) → Q v G4 := fun v pv hv => k v G4 (fun b o nb e => k4 _ _ nb (k3 _ _ nb e)) (S4.mono (by omega)) pv hv
      have box : ∀ p ∈ [l, t, d, m, u], Q (.ref p) G4 := fun p hp => by
        obtain ⟨b1, b2, b3⟩ := hb3 p hp
        exact fin _ ((PlV.box b1 b3).keep k4) fun p' e => by cases e; exact b2
      simp only [List.mem_append, List.mem_cons, List.not_mem_nil, or_false] at hx box
      rcases hx with (rfl | rfl | rfl | rfl | rfl | rfl | rfl | rfl | rfl | rfl | rfl | rfl | rfl | rfl | rfl | rfl) | (rfl | rfl | rfl | rfl | rfl | rfl | rfl | rfl | rfl)
      · exact fin _ .non fun p e => by cases e
      · exact fin _ (.int _) fun p e => by cases e
      · exact fin _ (.int _) fun p e => by cases e
      · exact fin _ (.bl _) fun p e => by cases e
      · exact fin _ (.bl _) fun p e => by cases e
      · exact fin _ (.str _) fun p e => by cases e
      · exact fin _ (.str _) fun p e => by cases e
      · exact fin _ (.str _) fun p e => by cases e
      · exact fin _ (.str _) fun p e => by cases e
      · exact fin _ (.str _) fun p e => by cases e
      · exact box _ (.inl rfl)
      · exact box _ (.inr (.inl rfl))
      · exact box _ (.inr (.inr (.inl rfl)))
      · exact box _ (.inr (.inr (.inr (.inl rfl))))
      · exact box _ (.inr (.inr (.inr (.inr rfl))))
      all_goals exact fin _ (.str _) fun p e => by cases e
end
end Lw

set_option Elab.async false
set_option linter.all false
set_option maxRecDepth 100000
set_option maxHeartbeats 40000000
namespace Lw
open PySem PySem.Spec PyProof.Rows L2
abbrev sMade33 : Stmt := top 19
section
variable {P : Program} {w : World} {K : PySem.W.Frag} {mg : Str → Option Value} {base : Heap}
/-! habits of the program, in each of the ways -/
theorem take_one {α : Type} {l : List α} {i : Nat} {x : α} (h : l[i]? = some x) : l.take (i + 1) = l.take i ++ [x] := by
  rw [List.take_succ, h]
  rfl
def dflt : Hv := ⟨.str "stop", .str "stop", .str "stop", .str "one"⟩
def dueH (way : Int) (x : Hv) : Hv := if way = 0 then dflt else if way = 1 then { dflt with pr := x.pr } else if way = 2 then { dflt with la := x.la } else if way = 3 then { dflt with go := x.go } else if way = 4 then { dflt with sh := x.sh } else x
theorem dflt_pl {a : Addr} {H : Hp} : PlH a H dflt := ⟨.str _, .str _, .str _, .str _⟩
theorem due_pl {a : Addr} {H : Hp} {x : Hv} (h : PlH a H x) (way : Int) : PlH a H (dueH way x) := by
  unfold dueH
  split
  · exact dflt_pl
  split
  · exact ⟨h.pr, .str _, .str _, .str _⟩
  split
  · exact ⟨.str _, h.la, .str _, .str _⟩
  split
  · exact ⟨.str _, .str _, h.go, .str _⟩
  split
  · exact ⟨.str _, .str _, .str _, h.sh⟩
  · exact h
def GivD (H : Hp) (g : Addr) (x : Hv) : Prop := ∃ kvs, H g = some (.dK kvs) ∧ ∀ h ∈ habNames, valV kvs (Sum.inr h) = some (x.of h)
theorem GivD.same {H G : Hp} {g : Addr} {x : Hv} (s : Same H G) (h : GivD H g x) : GivD G g x := by
  obtain ⟨kvs, h1, h2⟩ := h
  exact ⟨kvs, s _ _ h1, h2⟩
def spMadeV (CH CB : Addr) : Sp := fun vs H Q E => ∃ (way : Int) (g a : Addr) (x : Hv), vs = [.int way, .ref g] ∧ GivD H g x ∧ PlH a H x ∧ (∀ z r, wrongs (dueH way x) = z :: r → ∀ d G, H d = none → Same H G → G d = some (.xd (habF z)) → E (.ref CB) (some d) G) ∧
  (wrongs (dueH way x) = [] → ∀ h G, Same H G → H h = none → HabAtV CH G h (dueH way x) → Q (.ref h) G)
abbrev nMadeV : List Str := ["way", "given", "present", "lacking", "gone", "shared", "habit"]
theorem scMadeV : FnScope nMadeV ["way", "given"] (defScope sMade33) := ⟨rfl, rfl, rfl, by decide +kernel, rfl, by decide +kernel, by decide +kernel⟩
def mid1 {α : Type} : List α → List α → List α
  | a :: r, ws => a :: (ws ++ r)
  | [], ws => ws
def mid2 {α : Type} : List α → List α → List α
  | a :: r, ws => a :: mid1 r ws
  | [], ws => ws
theorem mid1_vals : ∀ {vs zs : List V} {us ws : List Value}, Vals vs us → Vals zs ws → Vals (mid1 vs zs) (mid1 us ws)
  | _, _, _, _, .nil, h => h
  | _, _, _, _, .cons r t, h => .cons r (h.append t)
theorem mid2_vals : ∀ {vs zs : List V} {us ws : List Value}, Vals vs us → Vals zs ws → Vals (mid2 vs zs) (mid2 us ws)
  | _, _, _, _, .nil, h => h
  | _, _, _, _, .cons r t, h => .cons r (mid1_vals t h)
theorem vals_rev3 : ∀ {vs : List V} {us : List Value}, Vals vs us → Vals vs.reverse us.reverse
  | _, _, .nil => .nil
  | _, _, .cons h r => by
    rw [List.reverse_cons, List.reverse_cons]
    exact Vals.append (vals_rev3 r) (.cons h .nil)
section
variable {f : Addr} {fd : FuncData}
abbrev psH : List Str := ["self", "present", "lacking", "gone", "shared"]
theorem hb_p (F : HabD K f fd) : ∃ mv : List Value, KBn K fd psH 1 ["present"] (fun us ws => us ++ (ws ++ mv)) (fun vs zs => vs ++ (zs ++ [.str "stop", .str "stop", .str "one"])) :=
  F.kbinds0 1 ["present"] [("lacking", .str "stop"), ("gone", .str "stop"), ("shared", .str "one")] (fun us mv ws => us ++ (ws ++ mv)) (fun z => by cases z) (fun q h => by simp at h; rcases h with rfl | rfl | rfl <;> simp) (fun a b c => a.append (c.append b)) fun D doc pm an cdv ct us mv ws h1 h2 h3 => match us, h1, mv, h2, ws, h3 with
    | [_], _, [_, _, _], _, [_], _ => ⟨_, _, _, _, _, _, rfl, rfl, _, _, _, _, _, _, rfl, rfl, _, _, _, _, _, _, rfl, rfl, rfl⟩
theorem hb_l (F : HabD K f fd) : ∃ mv : List Value, KBn K fd psH 1 ["lacking"] (fun us ws => us ++ mid1 mv ws) (fun vs zs => vs ++ mid1 [.str "stop", .str "stop", .str "one"] zs) :=
  F.kbinds0 1 ["lacking"] [("present", .str "stop"), ("gone", .str "stop"), ("shared", .str "one")] (fun us mv ws => us ++ mid1 mv ws) (fun z => by cases z) (fun q h => by simp at h; rcases h with rfl | rfl | rfl <;> simp) (fun a b c => a.append (mid1_vals b c)) fun D doc pm an cdv ct us mv ws h1 h2 h3 => match us, h1, mv, h2, ws, h3 with
    | [_], _, [_, _, _], _, [_], _ => ⟨_, _, _, _, _, _, rfl, rfl, _, _, _, _, _, _, rfl, rfl, _, _, _, _, _, _, rfl, rfl, rfl⟩
theorem hb_g (F : HabD K f fd) : ∃ mv : List Value, KBn K fd psH 1 ["gone"] (fun us ws => us ++ mid2 mv ws) (fun vs zs => vs ++ mid2 [.str "stop", .str "stop", .str "one"] zs) :=
  F.kbinds0 1 ["gone"] [("present", .str "stop"), ("lacking", .str "stop"), ("shared", .str "one")] (fun us mv ws => us ++ mid2 mv ws) (fun z => by cases z) (fun q h => by simp at h; rcases h with rfl | rfl | rfl <;> simp) (fun a b c => a.append (mid2_vals b c)) fun D doc pm an cdv ct us mv ws h1 h2 h3 => match us, h1, mv, h2, ws, h3 with
    | [_], _, [_, _, _], _, [_], _ => ⟨_, _, _, _, _, _, rfl, rfl, _, _, _, _, _, _, rfl, rfl, _, _, _, _, _, _, rfl, rfl, rfl⟩
theorem hb_s (F : HabD K f fd) : ∃ mv : List Value, KBn K fd psH 1 ["shared"] (fun us ws => us ++ (mv ++ ws)) (fun vs zs => vs ++ ([.str "stop", .str "stop", .str "stop"] ++ zs)) :=
  F.kbinds0 1 ["shared"] [("present", .str "stop"), ("lacking", .str "stop"), ("gone", .str "stop")] (fun us mv ws => us ++ (mv ++ ws)) (fun z => by cases z) (fun q h => by simp at h; rcases h with rfl | rfl | rfl <;> simp) (fun a b c => a.append (b.append c)) fun D doc pm an cdv ct us mv ws h1 h2 h3 => match us, h1, mv, h2, ws, h3 with
    | [_], _, [_, _, _], _, [_], _ => ⟨_, _, _, _, _, _, rfl, rfl, _, _, _, _, _, _, rfl, rfl, _, _, _, _, _, _, rfl, rfl, rfl⟩
theorem hb_4 (F : HabD K f fd) : ∃ mv : List Value, KBn K fd psH 1 ["present", "lacking", "gone", "shared"] (fun us ws => us ++ (ws ++ mv)) (fun vs zs => vs ++ (zs ++ [])) :=
  F.kbinds0 1 ["present", "lacking", "gone", "shared"] [] (fun us mv ws => us ++ (ws ++ mv)) (fun z => by cases z) (fun q h => by cases h) (fun a b c => a.append (c.append b)) fun D doc pm an cdv ct us mv ws h1 h2 h3 => match us, h1, mv, h2, ws, h3 with
    | [_], _, [], _, [_, _, _, _], _ => rfl
theorem hb_r (F : HabD K f fd) : ∃ mv : List Value, KBn K fd psH 1 ["shared", "gone", "lacking", "present"] (fun us ws => us ++ (ws.reverse ++ mv)) (fun vs zs => vs ++ (zs.reverse ++ [])) :=
  F.kbinds0 1 ["shared", "gone", "lacking", "present"] [] (fun us mv ws => us ++ (ws.reverse ++ mv)) (fun z => by cases z) (fun q h => by cases h) (fun a b c => a.append ((vals_rev3 c).append b)) fun D doc pm an cdv ct us mv ws h1 h2 h3 => match us, h1, mv, h2, ws, h3 with
    | [_], _, [], _, [_, _, _, _], _ => rfl
theorem hb_0 (F : HabD K f fd) : ∃ ds, Vals [.str "stop", .str "stop", .str "stop", .str "one"] ds ∧ Binds K fd psH ds :=
  F.binds0 1 (fun z => by cases z) rfl fun D doc pm an cdv ct us ks h1 h2 => match us, h1, ks, h2 with
    | [_], _, [_, _, _, _], _ => ⟨_, _, _, _, _, _, rfl, rfl, _, _, _, _, _, _, rfl, rfl, _, _, _, _, _, _, rfl, rfl, _, _, _, _, _, _, rfl, rfl, rfl⟩
end

theorem way_if {way c : Int} {A B : Prop} (h1 : way = c → A) (h2 : way ≠ c → B) : if decide (V.int way = V.int c) = true then A else B := by
  by_cases h : way = c
  · exact itTb (decide_eq_true (by rw [h])) (h1 h)
  · exact itFb (decide_eq_false fun e => h (V.int.inj e)) (h2 h)
theorem keep_ins3 {H G : Hp} {x dx : Addr} {o u : HO} (hx : H x = none) (hd : H dx = none) (k : Keep x (upd (upd H dx o) x u) G) : Same H G := fun b z h => by
  refine k b z (ne_of_none h hx) ?_
  rw [upd_ne (ne_of_none h hx), upd_ne (ne_of_none h hd)]
  exact h
theorem same_ins3 {H : Hp} {x dx : Addr} {o u : HO} (hx : H x = none) (hd : H dx = none) : Same H (upd (upd H dx o) x u) := fun b z h => by
  rw [upd_ne (ne_of_none h hx), upd_ne (ne_of_none h hd)]
  exact h
theorem ok_madeV {CH CB f fH : Addr} {fd fdH : FuncData} (F : FnP K "_law_made" sMade33 f fd) (MH : Mk K CH fH) (DH : HabD K fH fdH) (FH : FnOk P w K mg base (L2.CX P w) 4 fH fdH psH (spHabV CH CB)) (gH : mg "Habits" = some (.ref CH)) (cN : Cal P w K mg base CX0 "_law_names_of_habits" 1 [] spNamesH) :
    FnOk P w K mg base (L2.CX P w) 6 f fd ["way", "given"] (spMadeV CH CB) := by
  obtain ⟨fNm, fdNm, gNm, kNm, FNm, bNm⟩ := cN.ex
  obtain ⟨m1, k1⟩ := hb_p DH
  obtain ⟨m2, k2⟩ := hb_l DH
  obtain ⟨m3, k3⟩ := hb_g DH
  obtain ⟨m4, k4⟩ := hb_s DH
  obtain ⟨m5, k5⟩ := hb_4 DH
  obtain ⟨m6, k6⟩ := hb_r DH
  obtain ⟨ds, vd, b0⟩ := hb_0 DH
  refine F.ok scMadeV (fun vs H Q E h => ?_) (fun cdv A outer s H vs Q E hr h => ?_)
  · obtain ⟨way, g, a, x, rfl, _⟩ := h
    rfl
  · obtain ⟨way, g, a, x, rfl, hg, px, kE, k⟩ := h
    have nd := scMadeV.nd
    have hu := hu_of hr
    have h1 : Room 1 _ := hr.mono (by decide)
    have pE : Passes (L2.CX P w) (cxOf (L2.CX P w) P w K mg base nMadeV "_law_made" (defScope sMade33) f cdv A outer s H E) E := L2.passes_call (W := fun cls d _ G => E cls d G) (L2.takes_of rfl rfl rfl rfl) (fun _ _ _ _ h => h)
    refine ⟨_, (pss_cons (ps_asg (pe_lc (own := [("habit", 6)]) (g := (gName 6)) (tt := tYes) rfl nd (pi_list (pe_call0 FNm h1 rfl gNm kNm bNm .nil pass0)) (blkOk_by (N := nMadeV) (sc := defScope sMade33) (by decide +kernel)) (fun _ _ _ _ _ => pg_name (i := 6) nd rfl (Or.inl rfl)) (fun _ _ _ _ _ => pts_nil) (fun _ _ _ _ _ => pe_dget hu (pv 1) (pv 6) (fun _ _ => rfl))) (pg_unl (by rfl) (pgs_cons (pg_name (i := 2) nd rfl (Or.inl rfl)) (pgs_cons (pg_name (i := 3) nd rfl (Or.inl rfl)) (pgs_cons (pg_name (i := 4) nd rfl (Or.inl rfl)) (pgs_cons (pg_name (i := 5) nd rfl (Or.inl rfl)) pgs_nil))))))
      (pss_cons (ps_if (pt_cmpR op_eq (pv 0) pe_int (nomark _)) (pss_one (ps_ret (pe_make0 MH FH hr (by rfl) gH b0 vd pE))) pss_nil)
      (pss_cons (ps_if (pt_cmpR op_eq (pv 0) pe_int (nomark _)) (pss_one (ps_ret (pe_makeK0 MH FH hr (by rfl) gH k1 pE (pk_cons (pv 2) pk_nil)))) pss_nil)
      (pss_cons (ps_if (pt_cmpR op_eq (pv 0) pe_int (nomark _)) (pss_one (ps_ret (pe_makeK0 MH FH hr (by rfl) gH k2 pE (pk_cons (pv 3) pk_nil)))) pss_nil)
      (pss_cons (ps_if (pt_cmpR op_eq (pv 0) pe_int (nomark _)) (pss_one (ps_ret (pe_makeK0 MH FH hr (by rfl) gH k3 pE (pk_cons (pv 4) pk_nil)))) pss_nil)
      (pss_cons (ps_if (pt_cmpR op_eq (pv 0) pe_int (nomark _)) (pss_one (ps_ret (pe_makeK0 MH FH hr (by rfl) gH k4 pE (pk_cons (pv 5) pk_nil)))) pss_nil)
      (pss_cons (ps_if (pt_cmpR op_lt (pv 0) pe_int (nomark _)) (pss_one (ps_ret (pe_makeK0 MH FH hr (by rfl) gH k6 pE (pk_cons (pv 5) (pk_cons (pv 4) (pk_cons (pv 3) (pk_cons (pv 2) pk_nil))))))) pss_nil)
      (pss_one (ps_ret (pe_makeK0 MH FH hr (by rfl) gH k5 pE (pk_cons (pv 2) (pk_cons (pv 3) (pk_cons (pv 4) (pk_cons (pv 5) pk_nil)))))))))))))), ?_⟩
    have main : ∀ (z : Hv), dueH way x = z → ∀ (G : Hp), Same H G → ∀ p dx, G p = none → G dx = none → dx ≠ p → spHabV CH CB [.ref p, z.pr, z.la, z.go, z.sh] (upd (upd G dx (.own p)) p (.ins CH dx [])) (fun v H3 => v = .non ∧ Q (.ref p) H3) E := by
      rintro _ rfl G sG p dx np ndx ne
      have sI := same_ins3 (o := .own p) (u := .ins CH dx []) np ndx
      refine ⟨p, dx, a, dueH way x, rfl, upd_same, (due_pl px way).same (sG.trans sI), fun z r e d G2 nd s g => kE z r e d G2 (none_of_same (sG.trans sI) nd) ((sG.trans sI).trans s) g, fun e G2 kG hab => ⟨rfl, k e p G2 (sG.trans (keep_ins3 np ndx kG)) (none_of_same sG np) hab⟩⟩
    refine ⟨rfl, fun hl Ga sa nhl ghl => ⟨hl, rfl, ⟨_, SqL.of ghl⟩, fun D nD => ?_⟩⟩
    obtain ⟨kvs, hk, hv⟩ := hg
    refine lc_list (xs := habNames.map V.str) (fun i G => Same Ga G ∧ G D = some (.lst ((habNames.take i).map x.of))) ⟨Lw.Same.new (Same.refl Ga) nD, upd_same⟩ (fun i G _ h => SqL.of (h.1 _ _ ghl)) ?_ ?_
    · rintro i y G hx ⟨sG, gD⟩
      rw [List.getElem?_map] at hx
      obtain ⟨n, hn, rfl⟩ := Option.map_eq_some_iff.mp hx
      have hi : i < 4 := (List.getElem?_eq_some_iff.mp hn).1
      refine ⟨rfl, _, rfl, _, rfl, g, x.of n, rfl, .inl ⟨kvs, Sum.inr n, .inl (sG _ _ (sa _ _ hk)), rfl, (hv n (List.mem_of_getElem? hn)).symm⟩, _, gD, ?_, same_at nD sG, ?_⟩
      · have h9 : sizeLine = 16777216 := by decide
        rw [List.length_map, List.length_take]
        omega
      · rw [upd_same, take_one hn, List.map_append]
        rfl
    · rintro G ⟨sG, gD⟩
      have sH := sa.trans sG
      refine ⟨D, [x.pr, x.la, x.go, x.sh], rfl, SqL.of gD, rfl, _, _, rfl, _, _, rfl, _, _, rfl, _, _, rfl, rfl, ?_⟩
      have e0 : way = 0 → dueH way x = ⟨.str "stop", .str "stop", .str "stop", .str "one"⟩ := fun e => by subst e; rfl
      have e1 : way = 1 → dueH way x = ⟨x.pr, .str "stop", .str "stop", .str "one"⟩ := fun e => by subst e; rfl
      have e2 : way = 2 → dueH way x = ⟨.str "stop", x.la, .str "stop", .str "one"⟩ := fun e => by subst e; rfl
      have e3 : way = 3 → dueH way x = ⟨.str "stop", .str "stop", x.go, .str "one"⟩ := fun e => by subst e; rfl
      have e4 : way = 4 → dueH way x = ⟨.str "stop", .str "stop", .str "stop", x.sh⟩ := fun e => by subst e; rfl
      dsimp only
      refine ⟨_, rfl, rfl, _, rfl, way_if (fun e => fun p dx np ndx ne => main _ (e0 e) G sH p dx np ndx ne) (fun n0 => ?_)⟩
      dsimp only [tNext]
      refine ⟨_, rfl, rfl, _, rfl, way_if (fun e => ⟨_, rfl, rfl, rfl, fun p dx np ndx ne => main _ (e1 e) G sH p dx np ndx ne⟩) (fun n1 => ?_)⟩
      dsimp only [tNext]
      refine ⟨_, rfl, rfl, _, rfl, way_if (fun e => ⟨_, rfl, rfl, rfl, fun p dx np ndx ne => main _ (e2 e) G sH p dx np ndx ne⟩) (fun n2 => ?_)⟩
      dsimp only [tNext]
      refine ⟨_, rfl, rfl, _, rfl, way_if (fun e => ⟨_, rfl, rfl, rfl, fun p dx np ndx ne => main _ (e3 e) G sH p dx np ndx ne⟩) (fun n3 => ?_)⟩
      dsimp only [tNext]
      refine ⟨_, rfl, rfl, _, rfl, way_if (fun e => ⟨_, rfl, rfl, rfl, fun p dx np ndx ne => main _ (e4 e) G sH p dx np ndx ne⟩) (fun n4 => ?_)⟩
      have e5 : dueH way x = ⟨x.pr, x.la, x.go, x.sh⟩ := by
        unfold dueH
        rw [if_neg n0, if_neg n1, if_neg n2, if_neg n3, if_neg n4]
      dsimp only [tNext]
      refine ⟨_, rfl, _, _, rfl, rfl, _, rfl, ?_⟩
      by_cases h7 : way < 7
      · exact itTb (decide_eq_true h7) ⟨_, rfl, _, rfl, _, rfl, _, rfl, rfl, rfl, fun p dx np ndx ne => main _ e5 G sH p dx np ndx ne⟩
      · exact itFb (decide_eq_false h7) ⟨_, rfl, _, rfl, _, rfl, _, rfl, rfl, rfl, fun p dx np ndx ne => main _ e5 G sH p dx np ndx ne⟩
end
end Lw

set_option Elab.async false
set_option linter.all false
set_option maxRecDepth 100000
set_option maxHeartbeats 40000000
namespace Lw
open PySem PySem.Spec PyProof.Rows L2
abbrev sCaught : Stmt := top 17
section
variable {P : Program} {w : World} {K : PySem.W.Frag} {mg : Str → Option Value} {base : Heap}
/-! a call that is handed over; its error caught -/
structure TxtCa (K : PySem.W.Frag) (mg : Str → Option Value) (CB CE : Addr) : Prop where
  isi : mg "isinstance" = none
  vl : mg "ValueError" = none
  lk : mg "LookupError" = none
  gB : mg "BadHabit" = some (.ref CB)
  gE : mg "CopiesError" = some (.ref CE)
  exc : ExcC K CB
  xf : XfC K CB
  nH : PySem.W.findIn K (.ref CB) "habit" = some none
  exm : PySem.W.exmOne K (.ref CB) (.ref CB) = some true
  kE : PySem.W.kitOne K (.ref CB) (.ref CE) = some true
  kV : PySem.W.kitOne K (.ref CB) (.type "ValueError") = some true
  kL : PySem.W.kitOne K (.ref CB) (.type "LookupError") = some false
abbrev nCaught : List Str := ["act", "e"]
theorem scCaught : FnScope nCaught ["act"] (defScope sCaught) := ⟨rfl, rfl, rfl, by decide +kernel, rfl, by decide +kernel, by decide +kernel⟩
def EB (CB : Addr) (Q : VK) : XK := fun cls d G => ∃ z dd, cls = .ref CB ∧ d = some dd ∧ G dd = some (.xd (habF z)) ∧ ∀ t G2, Same G G2 → G2 t = some (.tup [.str z, .bl true, .bl true, .bl false]) → Q (.ref t) G2
def TTc (CB : Addr) : (XK → Hp → VK → Prop) → Hp → VK → Prop := fun tl H Q => tl (EB CB Q) H (fun _ G => Q .non G)
end
section
variable {X : Cx} {CB CE : Addr}
theorem caught_gives {q : Str} {g : Addr} {cdg : Value} (T : TxtCa X.K X.mg CB CE) : LamX.GivesTo X nCaught "_law_caught" (defScope sCaught) g cdg (defBody sCaught) "act" q (TTc CB) := by
  intro f c' s H Q tl act hc h
  have nd := scCaught.nd
  refine ⟨_, pss_cons (L2.ps_try_as (X := (cxOf C8.CX0 X.prog X.w X.K X.mg X.base nCaught "_law_caught" (defScope sCaught) g cdg X.A X.stack s H C8.E0).nox) (c := .ref CB) (i := 1)
      (tb := fun W D σ H => ∃ Ech : XK, (∀ cls d σ' G, Ech cls d G → σ'.length = 2 → W cls d σ' G) ∧ σ[0]? = some (some (.ref f)) ∧ H c' = some (LamX.CodeO c' q) ∧ tl Ech H (fun _ G => D.nx σ G))
      (ts := _) (Wout := fun _ _ _ _ => False) rfl rfl nd rfl rfl ⟨rfl, by decide, Or.inl T.gB⟩ takes0 (fun W pn xe tk _ => ?_)
      (fun a oe cls d pn hz hf => pss_one (ps_ret (pe_tup (pa_cons (pe_xf T.xf T.nH hz hf (pv 1)) (pa_cons (pe_callB (call_isED hz hf) (by rfl) T.isi (by decide +kernel) (pa_cons (pv 1) (pa_cons (pe_glob (v := .ref CE) rfl T.gE rfl) pa_nil))) (pa_cons (pe_callB (call_isED hz hf) (by rfl) T.isi (by decide +kernel) (pa_cons (pv 1) (pa_cons (pe_bltn (v := .ty "ValueError") (by rfl) T.vl (by decide +kernel) rfl) pa_nil)))
        (pa_cons (pe_callB (call_isED hz hf) (by rfl) T.isi (by decide +kernel) (pa_cons (pv 1) (pa_cons (pe_bltn (v := .ty "LookupError") (by rfl) T.lk (by decide +kernel) rfl) pa_nil))) pa_nil))))))))
    (pss_one (ps_ret pe_non)), ?_⟩
  · refine ⟨fun pins s' σ H' D I h' => ?_⟩
    obtain ⟨Ech, hW, h1, h2, h3⟩ := h'
    exact (pss_one (ps_expr (act _ pn xe Ech _ _ (Lm.takes_len tk) (fun cls d σ' G e hl => hW cls d σ' G e hl)))).run pins s' σ H' D I ⟨h1, h2, h3⟩
  · refine ⟨EB CB Q, fun cls d σ' G hE hl => ?_, rfl, hc, h⟩
    obtain ⟨z, dd, rfl, rfl, gd, k⟩ := hE
    have h1 : ∀ y : Addr, (σ'.set 1 (some (.ref y)))[1]? = some (some (.ref y)) := fun y => List.getElem?_set_self (by rw [hl]; decide)
    refine ⟨true, T.exm, fun _ y _ => ?_, fun e => Bool.noConfusion e⟩
    refine ⟨_, h1 y, rfl, rfl, dd, _, .str z, rfl, gd, rfl, _, h1 y, CB, dd, .ref CE, .ref CE, true, _, rfl, rfl, T.exc, rfl, fun u r => r, gd, T.kE, _, h1 y, CB, dd, .ty "ValueError", .type "ValueError", true, _, rfl, rfl, T.exc, rfl, fun u r => r, gd, T.kV, _, h1 y, CB, dd, .ty "LookupError", .type "LookupError", false, _, rfl, rfl, T.exc, rfl, fun u r => r, gd, T.kL, (by show 4 ≤ sizeLine; decide), fun t nt => ?_⟩
    exact k t _ (Lw.Same.new (Same.refl G) nt) upd_same
end
section
variable {P : Program} {w : World} {K : PySem.W.Frag} {mg : Str → Option Value} {base : Heap}
end
end Lw

set_option Elab.async false
set_option linter.all false
set_option maxRecDepth 100000
set_option maxHeartbeats 40000000
namespace Lw
open PySem PySem.Spec PyProof.Rows L2
section
variable {P : Program} {w : World} {K : PySem.W.Frag} {mg : Str → Option Value} {base : Heap}
/-! the law's state -/
theorem dp_strs {H : Hp} : ∀ ks : List Str, DpAll K H (ks.map V.str) (ks.map PyData.str)
  | [] => .nil
  | z :: r => .cons (.str z) (dp_strs r)
theorem hab_word {z : Str} (h : z ∈ habNames) : IsWord z := by
  have e : ∀ z ∈ habNames, isWordB z = true := by decide +kernel
  exact (isWordB_iff z).mp (e z h)
theorem val_word {z n : Str} (h : z ∈ valsOf n) : IsWord z := by
  have e : ∀ z ∈ (["stop", "keep", "replace", "merge", "skip", "make", "one", "all"] : List Str), isWordB z = true := by decide +kernel
  refine (isWordB_iff z).mp (e z ?_)
  unfold valsOf at h
  split at h
  · simp only [List.mem_cons, List.not_mem_nil, or_false] at h ⊢
    rcases h with rfl | rfl | rfl | rfl <;> simp
  split at h
  · simp only [List.mem_cons, List.not_mem_nil, or_false] at h ⊢
    rcases h with rfl | rfl | rfl <;> simp
  split at h
  · simp only [List.mem_cons, List.not_mem_nil, or_false] at h ⊢
    rcases h with rfl | rfl <;> simp
  · simp only [List.mem_cons, List.not_mem_nil, or_false] at h ⊢
    rcases h with rfl | rfl <;> simp
theorem wrongs_mem {y : Hv} : ∀ z ∈ wrongs y, z ∈ habNames := fun _ h => (List.mem_filter.mp h).1
theorem shaped_told {z : Str} (h : IsWord z) (a b c : Bool) : SeqAt.shaped (.tuple [.str z, .bool a, .bool b, .bool c]) = true := by
  have h3 : PyData.canLay0 (.str z) = true := by
    have := canLay_strs [z] (fun y hy => by rw [List.mem_singleton.mp hy]; exact h)
    have e : (PyData.canLay0 (.str z) && true) = true := this
    simpa using e
  have e1 : PyData.canLay0 (.tuple [.str z, .bool a, .bool b, .bool c]) = true := by
    show (PyData.canLay0 (.str z) && (PyData.canLay0 (.bool a) && (PyData.canLay0 (.bool b) && (PyData.canLay0 (.bool c) && true)))) = true
    rw [h3]
    rfl
  unfold SeqAt.shaped
  rw [e1]
  rfl
theorem eqv_told (z : Str) (a b c : Bool) : PyData.eqv (.tuple [.str z, .bool a, .bool b, .bool c]) (.tuple [.str z, .bool a, .bool b, .bool c]) = true := by simp [PyData.eqv, PyData.eqvAll]
theorem hab_inj {i j : Nat} {z : Str} (h1 : habNames[i]? = some z) (h2 : habNames[j]? = some z) : i = j := by
  have e : ∀ i, i < 4 → ∀ j, j < 4 → habNames[i]? = habNames[j]? → i = j := by decide +kernel
  exact e i (List.getElem?_eq_some_iff.mp h1).1 j (List.getElem?_eq_some_iff.mp h2).1 (h1.trans h2.symm)
theorem due_at {way : Int} (x : Hv) (w0 : 0 ≤ way) {i : Nat} {z : Str} (hz : habNames[i]? = some z) : ((way = (i : Int) + 1 ∨ 4 < way) → (dueH way x).of z = x.of z) ∧ (¬ (way = (i : Int) + 1 ∨ 4 < way) → (dueH way x).of z = dflt.of z) := by
  have hi : i < 4 := (List.getElem?_eq_some_iff.mp hz).1
  have h4 : i = 0 ∨ i = 1 ∨ i = 2 ∨ i = 3 := by omega
  rcases h4 with rfl | rfl | rfl | rfl
  · obtain rfl : "present" = z := Option.some.inj hz
    unfold dueH
    refine ⟨fun h => ?_, fun h => ?_⟩ <;> (repeat' split) <;> first | rfl | omega
  · obtain rfl : "lacking" = z := Option.some.inj hz
    unfold dueH
    refine ⟨fun h => ?_, fun h => ?_⟩ <;> (repeat' split) <;> first | rfl | omega
  · obtain rfl : "gone" = z := Option.some.inj hz
    unfold dueH
    refine ⟨fun h => ?_, fun h => ?_⟩ <;> (repeat' split) <;> first | rfl | omega
  · obtain rfl : "shared" = z := Option.some.inj hz
    unfold dueH
    refine ⟨fun h => ?_, fun h => ?_⟩ <;> (repeat' split) <;> first | rfl | omega
/-- the due dict behind i habits -/
def DueI (way : Int) (x : Hv) (i : Nat) (kvs : List (Key × V)) : Prop := kvs.length ≤ 4 + i ∧ ∀ j h, habNames[j]? = some h → valV kvs (Sum.inr h) = some (if j < i then (dueH way x).of h else dflt.of h)
theorem DueI.put {way : Int} {x : Hv} {i : Nat} {kvs : List (Key × V)} {z : Str} {v : V} (D : DueI way x i kvs) (hz : habNames[i]? = some z) (e : (dueH way x).of z = v) : DueI way x (i + 1) (putK kvs (Sum.inr z) v) := by
  obtain ⟨l, D⟩ := D
  refine ⟨Nat.le_trans (length_putK _ _ _) (by omega), fun j h hj => ?_⟩
  rw [valV_put]
  by_cases c : j = i
  · subst c
    rw [hz] at hj
    cases hj
    rw [if_pos rfl, if_pos (Nat.lt_succ_self _), e]
  · rw [if_neg (fun q => c (hab_inj hj (by cases q; exact hz))), D j h hj]
    by_cases c2 : j < i
    · rw [if_pos c2, if_pos (by omega)]
    · rw [if_neg c2, if_neg (by omega)]
theorem DueI.skip {way : Int} {x : Hv} {i : Nat} {kvs : List (Key × V)} {z : Str} (D : DueI way x i kvs) (hz : habNames[i]? = some z) (e : (dueH way x).of z = dflt.of z) : DueI way x (i + 1) kvs := by
  obtain ⟨l, D⟩ := D
  refine ⟨by omega, fun j h hj => ?_⟩
  rw [D j h hj]
  by_cases c : j = i
  · subst c
    rw [hz] at hj
    cases hj
    rw [if_neg (Nat.lt_irrefl _), if_pos (Nat.lt_succ_self _), e]
  · by_cases c2 : j < i
    · rw [if_pos c2, if_pos (by omega)]
    · rw [if_neg c2, if_neg (by omega)]
theorem DueI.first (way : Int) (x : Hv) : DueI way x 0 (mergeK [] (toldV dflt)) := ⟨by decide, fun j h hj => by
  rw [if_neg (Nat.not_lt_zero _)]
  exact told_of dflt (List.mem_of_getElem? hj)⟩
theorem DueI.last {way : Int} {x : Hv} {kvs : List (Key × V)} (D : DueI way x 4 kvs) : ∀ h ∈ habNames, valV kvs (Sum.inr h) = some ((dueH way x).of h) := fun h hh => by
  obtain ⟨j, hj⟩ := List.getElem?_of_mem hh
  have h4 : j < 4 := (List.getElem?_eq_some_iff.mp hj).1
  rw [D.2 j h hj, if_pos h4]
def KeptAt (CH : Addr) (G : Hp) (t : Addr) : Prop := ∃ h d y, G t = some (.tup [.ref h, .ref d]) ∧ HabAtV CH G h y ∧ GivD G d y ∧ wrongs y = []
theorem KeptAt.mv {CH : Addr} {G G' : Hp} {t : Addr} (k : ∀ b o, G b = some o → (∀ xs, o ≠ .lst xs) → (∀ ps, o ≠ .tbl ps) → G' b = some o) (h : KeptAt CH G t) : KeptAt CH G' t := by
  obtain ⟨h, d, y, h1, ⟨dx, h2⟩, ⟨kvs, h3, h4⟩, h5⟩ := h
  exact ⟨h, d, y, k _ _ h1 (fun _ z => by cases z) (fun _ z => by cases z), ⟨dx, k _ _ h2 (fun _ z => by cases z) (fun _ z => by cases z)⟩, ⟨kvs, k _ _ h3 (fun _ z => by cases z) (fun _ z => by cases z), h4⟩, h5⟩
theorem KeptAt.same {CH : Addr} {G G' : Hp} {t : Addr} (s : Same G G') (h : KeptAt CH G t) : KeptAt CH G' t := h.mv fun b o e _ _ => s b o e
theorem gd_str {y : Hv} {h : Str} (e : gd y h = true) : ∃ s, y.of h = .str s ∧ s ∈ valsOf h := by
  unfold gd at e
  generalize y.of h = v at e
  cases v with
  | str s => exact ⟨s, rfl, of_decide_eq_true e⟩
  | _ => cases e
/-- right values are texts -/
theorem right_vals {y : Hv} (e : wrongs y = []) : ∃ ss : List Str, habNames.map y.of = ss.map V.str ∧ ∀ s ∈ ss, IsWord s := by
  have h := wrongs_nil.mp e
  obtain ⟨s1, e1, m1⟩ := gd_str (h "present" (by decide))
  obtain ⟨s2, e2, m2⟩ := gd_str (h "lacking" (by decide))
  obtain ⟨s3, e3, m3⟩ := gd_str (h "gone" (by decide))
  obtain ⟨s4, e4, m4⟩ := gd_str (h "shared" (by decide))
  refine ⟨[s1, s2, s3, s4], by show [y.of "present", y.of "lacking", y.of "gone", y.of "shared"] = _; rw [e1, e2, e3, e4]; rfl, fun s hs => ?_⟩
  simp only [List.mem_cons, List.not_mem_nil, or_false] at hs
  rcases hs with rfl | rfl | rfl | rfl
  · exact val_word m1
  · exact val_word m2
  · exact val_word m3
  · exact val_word m4
theorem four_habV {kvs : List (Str × V)} (h : kvs.map (·.1) = habNames) : ∃ x : Hv, (kvs.map fun q => ((Sum.inr q.1 : Key), q.2)) = toldV x ∧ x.pr ∈ kvs.map (·.2) ∧ x.la ∈ kvs.map (·.2) ∧ x.go ∈ kvs.map (·.2) ∧ x.sh ∈ kvs.map (·.2) := by
  match kvs, h with
  | [(k1, a), (k2, b), (k3, c), (k4, d)], h =>
    have h : [k1, k2, k3, k4] = habNames := h
    simp only [List.cons.injEq, and_true] at h
    obtain ⟨rfl, rfl, rfl, rfl⟩ := h
    exact ⟨⟨a, b, c, d⟩, rfl, by simp, by simp, by simp, by simp⟩
theorem pr_mapH {α β : Type} {R S : α → β → Prop} (k : ∀ a b, R a b → S a b) : ∀ {as : List α} {bs : List β}, Paired R as bs → Paired S as bs
  | _, _, .nil => .nil
  | _, _, .cons r t => .cons (k _ _ r) (pr_mapH k t)
theorem pr_mapR {α β γ : Type} {R : α → γ → Prop} {S : α → β → Prop} {f : β → γ} (k : ∀ a b, S a b → R a (f b)) : ∀ {as : List α} {bs : List β}, Paired S as bs → Paired R as (bs.map f)
  | _, _, .nil => .nil
  | _, _, .cons r t => .cons (k _ _ r) (pr_mapR k t)
theorem keep_old {G H H' : Hp} {p : Addr} (n : G p = none) (s : Same G H) (k : Keep p H H') : Same G H' := fun b o e => k b o (ne_of_none e n) (s b o e)
end
end Lw

set_option Elab.async false
set_option linter.all false
set_option maxRecDepth 100000
set_option maxHeartbeats 40000000
namespace Lw
open PySem PySem.Spec PyProof.Rows L2
abbrev sLaw : Stmt := top 20
section
variable {P : Program} {w : World} {K : PySem.W.Frag} {mg : Str → Option Value} {base : Heap}
/-! the law -/
abbrev lawP : He.Defn := ("law", none)
abbrev nLaw : List Str := ["script", "kept", "at", "source", "habit", "due", "k", "wrong", "told", "habits", "given", "way"]
abbrev qLam : Str := (envOfC "law" (defScope sLaw) 0 0 .none).qual ++ "<lambda>"
abbrev TL (K : PySem.W.Frag) : List (Addr × Str) := [((He.cT K lawP).2, qLam)]
def spLaw (K : PySem.W.Frag) : Sp := fun vs H Q _ => ∃ (a : Addr) (ns : List Int), vs = [.ref a] ∧ SqL K H a (ns.map V.int) ∧ ns.length ≤ 63 ∧ H (He.cT K lawP).2 = some (.tbl #[]) ∧ ∀ H', Q (.bl true) H'
structure Cals33 (P : Program) (w : World) (K : PySem.W.Frag) (mg : Str → Option Value) (base : Heap) (CH CB CE : Addr) : Prop where
  src : Cal P w K mg base CX0 "_law_source" 1 ["script", "at"] (spSource K)
  draw : Cal P w K mg base CX0 "_law_draw" 1 ["source", "many"] spDrawW
  values : Cal P w K mg base CX0 "_law_values" 1 ["habit"] spValues
  names : Cal P w K mg base CX0 "_law_names_of_habits" 1 [] spNamesH
  value : Cal P w K mg base CX0 "_law_value" 3 ["source", "habit"] (spValue K)
  made : Cal P w K mg base (L2.CX P w) "_law_made" 6 ["way", "given"] (spMadeV CH CB)
  caught : ∃ g fd, mg "_law_caught" = some (.ref g) ∧ FnP K "_law_caught" sCaught g fd
  ca : TxtCa K mg CB CE
  hb : TxtHb K CH
  range : mg "range" = none
  max : mg "max" = none
  min : mg "min" = none
  len : mg "len" = none
  dict : mg "dict" = none
  enum : mg "enumerate" = none
theorem scLaw : FnScope nLaw ["script"] (defScope sLaw) := ⟨rfl, rfl, rfl, by decide +kernel, rfl, by decide +kernel, by decide +kernel⟩
theorem ok_law {CH CB CE : Addr} {fd : FuncData} (F : FnP K "law" sLaw (He.fAd K lawP) fd) (c : Cals33 P w K mg base CH CB CE) (TB : LamX.TabB base mg (He.cT K lawP).1 (He.cT K lawP).2) : FnOk P w K mg base CX0 9 (He.fAd K lawP) fd ["script"] (spLaw K) := by
  obtain ⟨fNm, fdNm, gNm, kNm, FNm, bNm⟩ := c.names.ex
  obtain ⟨fM, fdM, gM, kM, FM, bM⟩ := c.made.ex
  obtain ⟨fC, fdC, gCa, FC⟩ := c.caught
  have kCa := FC.kp
  have bCa : Binds K fdC ["act"] [] := FC.bindsN fun _ _ _ _ _ _ us hl => match us, hl with | [_], _ => rfl
  obtain ⟨ocC, odC, dVC, kVC, docC, pmC, anC, cdC, ctC, oslC, rfl, lkCa, hcCa, _, _⟩ := FC.ex
  refine Lm.okC F scLaw (fun vs H Q E h => ?_) (fun cdv A outer s0 H vs Q E hcd hr h => ?_)
  · obtain ⟨a, ns, rfl, _⟩ := h
    rfl
  · obtain ⟨a, ns, rfl, hS, hlen, hT0, k⟩ := h
    subst hcd
    have nd := scLaw.nd
    have h1 : Room 1 _ := hr.mono (by decide)
    have h3 : Room 3 _ := hr.mono (by decide)
    have h6 : Room 6 _ := hr.mono (by decide)
    have hu := hu_of hr
    have h9 : sizeLine = 16777216 := by decide
    refine ⟨_, PSs.nox (pss_cons (ps_set (i := 1) nd rfl (Or.inl rfl) (pe_lst pa_nil))
      (pss_cons (ps_for PassesOwn.never rfl (pi_range1 rfl c.range (pa_cons (pe_callB (call_max2 rfl) (by rfl) c.max (by decide +kernel) (pa_cons pe_int (pa_cons (pe_callB (call_min2 rfl) (by rfl) c.min (by decide +kernel) (pa_cons pe_int (pa_cons (pe_callB call_len_seq (by rfl) c.len PySem.boot_len (pa_cons (pv 0) pa_nil)) pa_nil))) pa_nil))) pa_nil)) (pg_name (i := 2) nd rfl (Or.inl rfl)) (pss_cons (ps_set (i := 3) nd rfl (Or.inr rfl) (pe_cal c.src h1 (pa_cons (pv 0) (pa_cons (pv 2) pa_nil))))
      (pss_cons (ps_set (i := 10) nd rfl (Or.inr rfl) (pe_callTy (call_dictP rfl) (by rfl) c.dict (by decide +kernel) (pa_cons (pe_lc (own := [("habit", 4)]) (g := (gName 4)) (tt := tYes) rfl nd (pi_list (pe_call0 FNm h1 rfl gNm kNm bNm .nil pass0)) (blkOk_by (N := nLaw) (sc := defScope sLaw) (by decide +kernel)) (fun _ _ _ _ _ => pg_name (i := 4) nd rfl (Or.inl rfl)) (fun _ _ _ _ _ => pts_nil) (fun _ _ _ _ _ => pe_tup (pa_cons (pv 4) (pa_cons (pe_cal c.value h3 (pa_cons (pv 3) (pa_cons (pv 4) pa_nil))) pa_nil)))) pa_nil)))
      (pss_cons (ps_set (i := 11) nd rfl (Or.inr rfl) (pe_cal c.draw h1 (pa_cons (pv 3) (pa_cons pe_int pa_nil))))
      (pss_cons (ps_set (i := 5) nd rfl (Or.inr rfl) (pe_disp (pps_cons pe_str pe_str (pps_cons pe_str pe_str (pps_cons pe_str pe_str (pps_cons pe_str pe_str pps_nil)))) (by rfl) (by rfl) (fun z => by cases z) (by decide)))
      (pss_cons (ps_for PassesOwn.never rfl (pi_enum (by rfl) c.enum (pa_cons (pe_call0 FNm h1 rfl gNm kNm bNm .nil pass0) pa_nil)) (pg_tup (by rfl) (pgs_cons (pg_name (i := 6) nd rfl (Or.inl rfl)) (pgs_cons (pg_name (i := 4) nd rfl (Or.inl rfl)) pgs_nil))) (pss_one (ps_if (PW.pt (pw_or (pt_cmpR op_eq (pv 11) (pe_op op_add (pv 6) pe_int) (nomark _)) (pw_or1 (pt_cmpR op_gt (pv 11) pe_int (nomark _))))) (pss_one (ps_dput hu (pv 5) (pv 4) (pe_dget hu (pv 10) (pv 4) (fun _ _ => rfl)) rfl)) pss_nil)))
      (pss_cons (ps_setLc (i := 7) (own := [("habit", 4)]) (g := (gName 4)) rfl nd rfl rfl (sw_true rfl rfl rfl (by decide +kernel)) (pi_list (pe_call0 FNm h1 rfl gNm kNm bNm .nil pass0)) (blkOk_by (N := nLaw) (sc := defScope sLaw) (by decide +kernel)) (fun _ _ _ _ _ => pg_name (i := 4) nd rfl (Or.inl rfl)) (fun _ _ _ _ _ => pts_one (pt_cmpR (r := Iw.rInW K true) (by exact Iw.op_notInW hr.units) (pe_dget hu (pv 5) (pv 4) (fun _ _ => rfl)) (pe_cal c.values h1 (pa_cons (pv 4) pa_nil)) (by rfl))) (fun _ _ _ _ _ => pv 4))
      (pss_cons (ps_set (i := 8) nd rfl (Or.inl rfl) (LamX.pe_lamcall (T := [((He.cT K lawP).2, qLam)]) (TT := TTc CB) (k := 6) rfl gCa kCa lkCa hcCa bCa scCaught rfl (Or.inl rfl) (caught_gives c.ca) TB rfl (List.mem_singleton.mpr rfl) (fun p hp _ => by rw [List.mem_singleton.mp hp] <;> rfl) hr (LamX.lamS_by (show LamX.lamSB (defScope sLaw) _ = true by decide +kernel)) rfl (fun _ _ _ _ _ => rfl) (fun A' outer' s' H' E' f' c' hr' => pe_call FM hr' rfl gM kM bM .nil (L2.passes_call (W := fun cls d _ G => E' cls d G) (L2.takes_of rfl rfl rfl rfl) (fun _ _ _ _ h => h)) (pa_cons (pv 11) (pa_cons (pv 10) pa_nil)))))
      (pss_cons (ps_if (pt_cmpR (op_neD hr.units) (pv 7) (pe_lst pa_nil) (nomark _)) (pss_cons (ps_if (pt_cmpR (op_neD hr.units) (pv 8) (pe_tup (pa_cons (pe_ix (r := rIxL K) (by exact ix_list) (pv 7) pe_int (fun _ _ => rfl)) (pa_cons pe_bl (pa_cons pe_bl (pa_cons pe_bl pa_nil))))) (nomark _)) (pss_one (ps_ret pe_bl)) pss_nil)
      (pss_one ps_continue)) pss_nil)
      (pss_cons (ps_if (pt_cmpR op_notN (pv 8) pe_non (by rfl)) (pss_one (ps_ret pe_bl)) pss_nil)
      (pss_one (ps_expr (pe_bm PySem.F.plainAttrs_list PySem.F.slot_list_append PySem.F.type_list_append mt_append (pv 1) (pa_cons (pe_tup (pa_cons (pe_call FM h6 rfl gM kM bM .nil L2.passL (pa_cons (pv 11) (pa_cons (pv 10) pa_nil))) (pa_cons (pv 5) pa_nil))) pa_nil))))))))))))))
      (pss_cons (ps_for PassesOwn.never rfl (pi_list (pv 1)) (pg_tup (by rfl) (pgs_cons (pg_name (i := 9) nd rfl (Or.inl rfl)) (pgs_cons (pg_name (i := 5) nd rfl (Or.inr rfl)) pgs_nil))) (pss_cons (ps_set (i := 8) nd rfl (Or.inl rfl) (pe_lst (pa_cons (pe_fld (pv 9) (by rfl)) (pa_cons (pe_fld (pv 9) (by rfl)) (pa_cons (pe_fld (pv 9) (by rfl)) (pa_cons (pe_fld (pv 9) (by rfl)) pa_nil))))))
      (pss_one (ps_if (pt_cmpR (op_neD hr.units) (pv 8) (pe_lc (own := [("habit", 4)]) (g := (gName 4)) (tt := tYes) rfl nd (pi_list (pe_call0 FNm h1 rfl gNm kNm bNm .nil pass0)) (blkOk_by (N := nLaw) (sc := defScope sLaw) (by decide +kernel)) (fun _ _ _ _ _ => pg_name (i := 4) nd rfl (Or.inl rfl)) (fun _ _ _ _ _ => pts_nil) (fun _ _ _ _ _ => (pe_dget hu (pv 5) (pv 4) (fun _ _ => rfl)))) (nomark _)) (pss_one (ps_ret pe_bl)) pss_nil))))
      (pss_one (ps_ret pe_bl))))), ?_⟩
    refine sq_set (fun x H1 => ∃ L, x = .ref L ∧ H L = none ∧ Same H H1 ∧ H1 L = some (.lst [])) (fun Q q => ⟨(by show 0 ≤ sizeLine; decide), fun L nL => q _ _ ⟨L, rfl, nL, Lw.Same.new (Same.refl H) nL, upd_same⟩⟩) ?_
    rintro _ H1 ⟨L, rfl, nL, sH1, hL1⟩
    have mvS : ∀ {G G' : Hp}, (∀ b o, b ≠ L → G b = some o → (∀ ps, o ≠ .tbl ps) → G' b = some o) → SqL K G a (ns.map V.int) → SqL K G' a (ns.map V.int) := fun {G G'} kk hg => by
      rcases hS with hR | hC
      · have ne : a ≠ L := by rcases hR with h | ⟨o, h⟩ <;> exact ne_of_none h nL
        rcases hg with (h | ⟨o, h⟩) | h
        · exact .inl (.inl (kk _ _ ne h (fun ps z => by cases z)))
        · exact .inl (.inr ⟨o, kk _ _ ne h (fun ps z => by cases z)⟩)
        · exact .inr h
      · exact .inr hC
    have hT1 : LamX.Tabs (TL K) H1 := fun q hq => by
      rw [List.mem_singleton.mp hq]
      exact LamX.TabS.nil (sH1 _ _ hT0)
    have hb : ∀ M : Int, 0 ≤ M → 0 ≤ (if (if M < 8 then M else 8) > 2 then (if M < 8 then M else 8) else 2) ∧ (if (if M < 8 then M else 8) > 2 then (if M < 8 then M else 8) else 2) ≤ 8 := fun M h => by split <;> split <;> omega
    have hb2 := hb (((ns.map V.int).length : Nat) : Int) (by omega)
    have hS1 : SqL K H1 a (ns.map V.int) := sH1.seq hS
    refine ⟨_, rfl, a, _, rfl, .inl hS1, _, _, rfl, _, _, rfl, _, rfl, by omega, by omega, ?_⟩
    generalize hnk : Int.toNat _ = nk
    have lnk : nk ≤ 8 := by omega
    refine for_range (lo := 0) (fun i σ G => ∃ (v2 v3 v4 v5 v6 v7 v8 v9 v10 v11 : Option V) (ts : List Addr), σ = [some (.ref a), some (.ref L), v2, v3, v4, v5, v6, v7, v8, v9, v10, v11] ∧ SqL K G a (ns.map V.int) ∧ LamX.Tabs (TL K) G ∧ G L = some (.lst (ts.map V.ref)) ∧ ts.length ≤ i ∧ ∀ t ∈ ts, KeptAt CH G t)
      ⟨_, _, _, _, _, _, _, _, _, _, [], rfl, hS1, hT1, hL1, Nat.le_refl _, fun t h => (List.not_mem_nil h).elim⟩ ?_ ?_
    · rintro i σ G hi ⟨v2, v3, v4, v5, v6, v7, v8, v9, v10, v11, ts, rfl, hSG, hTG, hLG, lts, hK⟩
      refine g_name ?_
      refine sq_set (fun x G1 => ∃ p, x = .ref p ∧ G p = none ∧ Same G G1 ∧ Src G1 p 0) (fun Q q => ⟨_, rfl, _, rfl, a, ns, _, rfl, hSG, by omega, by omega, by omega, fun p G1 np s1 hs => q _ _ ⟨p, rfl, np, s1, hs⟩⟩) ?_
      rintro _ G1 ⟨p, rfl, np, s1, S1⟩
      refine sq_set (fun x G2 => ∃ g y, x = .ref g ∧ PlH p G2 y ∧ Keep p G1 G2 ∧ Src G2 p 90 ∧ GivD G2 g y ∧ g ≠ p) (fun Q q => ?_) ?_
      · refine ⟨rfl, fun hl Ga sa nhl ghl => ⟨hl, rfl, ⟨_, SqL.of ghl⟩, fun D nD => ?_⟩⟩
        have Sa := S1.same sa
        have hlp : hl ≠ p := S1.ne nhl
        have Dp : D ≠ p := Sa.ne nD
        refine lc_list (xs := habNames.map V.str) (fun i G => ∃ (kvs : List (Str × V)) (ps : List Addr), kvs.map (·.1) = habNames.take i ∧ (∀ q ∈ kvs, PlV p G q.2 ∧ q.2 ≠ .ref D) ∧ G D = some (.lst (ps.map V.ref)) ∧ ps.length = i ∧ Paired (fun t (q : Str × V) => G t = some (.tup [.str q.1, q.2]) ∧ t ≠ p ∧ t ≠ D) ps kvs ∧ Keep p Ga G ∧ Src G p (22 * i))
          ⟨[], [], rfl, fun _ h => (List.not_mem_nil h).elim, upd_same, rfl, .nil, (Keep.refl Ga).new nD, Sa.new nD⟩ (fun i G _ ⟨_, _, _, _, _, _, _, kG, _⟩ => SqL.of (kG _ _ hlp ghl)) ?_ ?_
        · rintro i x G hx ⟨kvs, ps, hk, hv, gD, lp, pp, kG, SG⟩
          rw [List.getElem?_map] at hx
          obtain ⟨n, hn, rfl⟩ := Option.map_eq_some_iff.mp hx
          have hi : i < 4 := (List.getElem?_eq_some_iff.mp hn).1
          refine ⟨rfl, _, rfl, _, rfl, _, rfl, p, _, n, rfl, List.mem_of_getElem? hn, SG, by omega, fun v G5 k5 S5 pv nv => ?_⟩
          refine ⟨(by show 2 ≤ sizeLine; decide), fun u nu => ?_⟩
          have gD5 := k5 _ _ Dp gD
          have su := Lw.Same.new (o := .tup [.str n, v]) (Same.refl G5) nu
          have uD : u ≠ D := (ne_of_none gD5 nu).symm
          have up : u ≠ p := S5.ne nu
          have vD : v ≠ .ref D := fun e => by
            have := nv D e
            rw [gD] at this
            cases this
          have kk : Keep p G (upd G5 u (.tup [.str n, v])) := fun b o nb e => su _ _ (k5 _ _ nb e)
          have mvD : ∀ {o : HO} {z : V}, z ≠ .ref D → PlV p (upd G5 u (.tup [.str n, v])) z → PlV p (upd (upd G5 u (.tup [.str n, v])) D o) z := fun {o z} nz pz => by
            cases pz with
            | str z => exact .str z
            | non => exact .non
            | int i => exact .int i
            | bl b => exact .bl b
            | @box b n1 b1 =>
              have bD : b ≠ D := fun e => nz (by rw [e])
              cases b1 with
              | lst h => exact .box n1 (.lst (by rw [upd_ne bD]; exact h))
              | tup h => exact .box n1 (.tup (by rw [upd_ne bD]; exact h))
              | dic h => exact .box n1 (.dic (by rw [upd_ne bD]; exact h))
          refine ⟨_, su _ _ gD5, by rw [List.length_map]; omega, kvs ++ [(n, v)], ps ++ [u], by rw [List.map_append, hk, take_one hn]; rfl, fun q hq => ?_, by rw [upd_same, List.map_append]; rfl, by rw [List.length_append, lp]; rfl, ?_, keep_at nD (kG.trans kk), ?_⟩
          · rcases List.mem_append.mp hq with h | h
            · exact ⟨mvD (hv q h).2 ((hv q h).1.keep kk), (hv q h).2⟩
            · rw [List.mem_singleton.mp h]
              exact ⟨mvD vD (pv.same su), vD⟩
          · exact (pr_mapH (fun t q ⟨e1, e2, e3⟩ => ⟨by rw [upd_ne e3]; exact kk _ _ e2 e1, e2, e3⟩) pp).snoc ⟨by rw [upd_ne uD]; exact upd_same, up, uD⟩
          · obtain ⟨x1, x2, x3, y1, y2⟩ := (S5.same su).mono (show 22 * i + 20 ≤ 22 * (i + 1) by omega)
            exact ⟨x1, x2, x3, by rw [upd_ne Dp.symm]; exact y1, y2⟩
        · rintro G ⟨kvs, ps, hk, hv, gD, lp, pp, kG, SG⟩
          rw [List.length_map] at hk SG
          obtain ⟨y, ey, m1, m2, m3, m4⟩ := four_habV hk
          have pv : ∀ v ∈ kvs.map (·.2), PlV p G v := fun v hv2 => by
            obtain ⟨q, hq, rfl⟩ := List.mem_map.mp hv2
            exact (hv q hq).1
          refine ⟨D, ps, kvs.map fun q => ((Sum.inr q.1 : Key), q.2), rfl, SqL.of gD, pr_mapR (fun t q ⟨e1, _, _⟩ => SqT.of e1) pp, fun sd nsd => ?_⟩
          rw [ey]
          have ss := Lw.Same.new (o := .dK (mergeK [] (toldV y))) (Same.refl G) nsd
          refine q _ _ ⟨sd, y, rfl, ⟨(pv _ m1).same ss, (pv _ m2).same ss, (pv _ m3).same ss, (pv _ m4).same ss⟩, fun b o nb e => ss _ _ (kG _ _ nb (sa _ _ e)), (SG.same ss).mono (by decide), ⟨_, upd_same, fun h hh => told_of y hh⟩, SG.ne nsd⟩
      rintro _ G2 ⟨g, y, rfl, py, k2, S2, hg, gp⟩
      refine sq_set (fun x G3 => ∃ way : Int, x = .int way ∧ 0 ≤ way ∧ Keep p G2 G3 ∧ Src G3 p 91) (fun Q q => ⟨_, rfl, p, _, _, rfl, S2, by decide, by decide, by decide, fun G3 m k3 S3 m0 m1 => q _ _ ⟨m, rfl, m0, k3, S3⟩⟩) ?_
      rintro _ G3 ⟨way, rfl, w0, k3, S3⟩
      have s3 : Same G G3 := keep_old np (keep_old np s1 k2) k3
      have py3 := py.keep k3
      have hg3 : GivD G3 g y := by
        obtain ⟨gk, h1, h2⟩ := hg
        exact ⟨gk, k3 _ _ gp h1, h2⟩
      refine sq_set (fun x G4 => ∃ d, x = .ref d ∧ G3 d = none ∧ Same G3 G4 ∧ G4 d = some (.dK (mergeK [] (toldV dflt)))) (fun Q q => fun d nd2 => ⟨upd_same, toldV dflt, rfl, (by show 4 ≤ 15; decide), q _ _ ⟨d, rfl, nd2, same_at nd2 (Lw.Same.new (Same.refl G3) nd2), upd_same⟩⟩) ?_
      rintro _ G4 ⟨d, rfl, nd3, s4, gd4⟩
      obtain ⟨gk, hgk, hgv⟩ := id hg3
      refine ⟨rfl, fun hl Ga sa nhl ghl => ⟨hl, _, rfl, SqL.of ghl, ?_⟩⟩
      have gda := sa _ _ gd4
      have s3a := s4.trans sa
      have hd : hl ≠ d := fun e => by rw [e, gda] at ghl; cases ghl
      have nla : G3 hl = none := none_of_same s4 nhl
      refine for_it (walk_enum (xs := habNames.map V.str)) (fun j σ G => ∃ (v4 v6 : Option V) (kvs : List (Key × V)), σ = [some (.ref a), some (.ref L), some (.int (0 + (i : Int))), some (.ref p), v4, some (.ref d), v6, v7, v8, v9, some (.ref g), some (.int way)] ∧ Same G3 G ∧ G hl = some (.lst (habNames.map V.str)) ∧ G d = some (.dK kvs) ∧ DueI way y j kvs)
        ⟨_, _, _, rfl, s3a, ghl, gda, DueI.first way y⟩ (fun j σ G _ ⟨_, _, _, _, _, h, _⟩ => SqL.of h) ?_ ?_
      · rintro j x σ G0 G' hj ⟨w4, w6, kvs, rfl, sG0, gl0, gd0, DI⟩ ⟨T, x1, y1, rfl, nT, rfl, e1, e2⟩
        cases e1
        have e3 : (habNames.map V.str)[j]? = some y1 := e2
        rw [List.getElem?_map] at e3
        obtain ⟨n, hn, rfl⟩ := Option.map_eq_some_iff.mp e3
        have hj4 : j < 4 := (List.getElem?_eq_some_iff.mp hn).1
        have sT := Lw.Same.new (o := .tup [.int (j : Nat), .str n]) (Same.refl G0) nT
        refine ⟨T, _, rfl, SqT.of upd_same, rfl, _, _, rfl, _, _, rfl, rfl, ?_⟩
        generalize upd G0 T (.tup [.int (j : Nat), .str n]) = G1' at sT ⊢
        obtain ⟨da1, da2⟩ := due_at y w0 hn
        refine s1_if (fun b G6 => G6 = G1' ∧ (b = true → (way = (j : Int) + 1 ∨ 4 < way)) ∧ (b = false → ¬ (way = (j : Int) + 1 ∨ 4 < way))) (fun Q q => ?_) ?_ ?_
        · refine ⟨_, rfl, _, rfl, _, _, rfl, rfl, rfl, _, rfl, way_if (fun e => q true _ ⟨rfl, fun _ => .inl e, fun e2 => by cases e2⟩) (fun ne => ⟨_, rfl, _, _, rfl, rfl, _, rfl, q _ _ ⟨rfl, fun e2 => .inr (of_decide_eq_true e2), fun e2 => ?_⟩⟩)⟩
          rintro (h | h)
          · exact ne h
          · exact of_decide_eq_false e2 h
        · rintro _ ⟨rfl, hw, _⟩
          refine ⟨_, rfl, _, rfl, g, y.of n, rfl, .inl ⟨gk, Sum.inr n, .inl (sT _ _ (sG0 _ _ hgk)), rfl, (hgv n (List.mem_of_getElem? hn)).symm⟩, _, rfl, _, rfl, d, _, rfl, DPut.k (k := Sum.inr n) (sT _ _ gd0) ?_, _, _, _, rfl, ?_, ?_, upd_same, DI.put hn (da1 (hw rfl))⟩
          · have := DI.1
            omega
          · exact same_at nd3 (sG0.trans sT)
          · rw [upd_ne hd]
            exact sT _ _ gl0
        · rintro _ ⟨rfl, _, hw⟩
          exact ⟨_, _, _, rfl, sG0.trans sT, sT _ _ gl0, sT _ _ gd0, DI.skip hn (da2 (hw rfl))⟩
      rintro σ G5 ⟨v4, v6, dk, rfl, s5, _, gd5, DI⟩
      have dv := DI.last
      have py5 := py3.same s5
      dsimp only
      refine sq_set (fun x G6 => ∃ wl, x = .ref wl ∧ Same G5 G6 ∧ G6 wl = some (.lst ((wrongs (dueH way y)).map V.str))) (fun Q q => ?_) ?_
      · refine ⟨rfl, fun hl Ga sa nhl ghl => ⟨hl, rfl, ⟨_, SqL.of ghl⟩, fun D nD => ?_⟩⟩
        refine lc_list (xs := habNames.map V.str) (fun i G => Same Ga G ∧ G D = some (.lst (((habNames.take i).filter fun h => !gd (dueH way y) h).map V.str))) ⟨Lw.Same.new (Same.refl Ga) nD, upd_same⟩ (fun i G _ h => SqL.of (h.1 _ _ ghl)) ?_ ?_
        · rintro j x G hx ⟨sG, gD⟩
          rw [List.getElem?_map] at hx
          obtain ⟨n, hn, rfl⟩ := Option.map_eq_some_iff.mp hx
          have hj4 : j < 4 := (List.getElem?_eq_some_iff.mp hn).1
          have hm := List.mem_of_getElem? hn
          have sG5 := sa.trans sG
          refine ⟨rfl, _, rfl, _, rfl, d, (dueH way y).of n, rfl, .inl ⟨dk, Sum.inr n, .inl (sG5 _ _ gd5), rfl, (dv n hm).symm⟩, _, rfl, n, rfl, hm, fun l G4 s4 nl gl => ?_⟩
          refine notIn_of (((due_pl py5 way).same (sG5.trans s4)).of n) (.inl (SqL.of gl)) ⟨_, rfl, ?_⟩
          have sA := sG.trans s4
          have lD : (List.take j habNames).length ≤ 4 := by rw [List.length_take]; omega
          cases hg4 : gd (dueH way y) n with
          | true =>
            refine itFb (by show (!gd (dueH way y) n) = false; rw [hg4]; rfl) ⟨sA, ?_⟩
            rw [take_one hn, List.filter_append, List.filter_cons_of_neg (by rw [hg4]; simp)]
            rw [List.filter_nil, List.append_nil]
            exact s4 _ _ gD
          | false =>
            refine itTb (by show (!gd (dueH way y) n) = true; rw [hg4]; rfl) ⟨_, rfl, _, s4 _ _ gD, ?_, same_at nD sA, ?_⟩
            · rw [List.length_map]
              exact Nat.lt_of_le_of_lt (Nat.le_trans (List.length_filter_le _ _) lD) (by omega)
            · rw [upd_same, take_one hn, List.filter_append, List.filter_cons_of_pos (by rw [hg4]; rfl), List.filter_nil, List.map_append]
              rfl
        · rintro G ⟨sG, gD⟩
          exact q _ _ ⟨D, rfl, sa.trans sG, gD⟩
      rintro _ G6 ⟨wl, rfl, s6, gw6⟩
      have sG6 : Same G G6 := s3.trans (s5.trans s6)
      have hT6 := Lm.tabs_same sG6 hTG
      have hg6 := hg3.same (s5.trans s6)
      have py6 := py5.same s6
      have gd6 := s6 _ _ gd5
      refine sq_set (fun v G7 => LamX.ExtN G6 G7 ∧ LamX.Tabs (TL K) G7 ∧ ((∃ z r t, wrongs (dueH way y) = z :: r ∧ v = .ref t ∧ G7 t = some (.tup [.str z, .bl true, .bl true, .bl false])) ∨ (wrongs (dueH way y) = [] ∧ v = .non))) (fun Q q => ?_) ?_
      · refine ⟨hT6, fun H8 e8 T8 => ?_⟩
        have hg8 : GivD H8 g y := by
          obtain ⟨k8, h1, h2⟩ := hg6
          exact ⟨k8, e8 _ _ h1 (fun ps z => by cases z), h2⟩
        refine ⟨_, rfl, _, rfl, way, g, p, y, rfl, hg8, py6.ext e8, fun z r e d8 G8 n8 s8 gd8 => ⟨z, d8, rfl, rfl, gd8, fun t G9 s9 gt => ?_⟩, fun e h8 G8 s8 n8 hab => ?_⟩
        · exact q _ _ ⟨e8.trans (LamX.ExtN.of fun b o hb => s9 _ _ (s8 _ _ hb)), Lm.tabs_same (s8.trans s9) T8, .inl ⟨z, r, t, e, rfl, gt⟩⟩
        · exact q _ _ ⟨e8.trans (LamX.ExtN.of fun b o hb => s8 _ _ hb), Lm.tabs_same s8 T8, .inr ⟨e, rfl⟩⟩
      rintro v8 G7 ⟨e7, T7, hv8⟩
      have gw7 := e7 _ _ gw6 (fun ps z => by cases z)
      have hg7 : GivD G7 g y := by
        obtain ⟨k8, h1, h2⟩ := hg6
        exact ⟨k8, e7 _ _ h1 (fun ps z => by cases z), h2⟩
      have gd7 := e7 _ _ gd6 (fun ps z => by cases z)
      have py7 := py6.ext e7
      have eG7 : ∀ b o, G b = some o → (∀ ps, o ≠ .tbl ps) → G7 b = some o := fun b o hb no => e7 _ _ (sG6 _ _ hb) no
      have hL7 := eG7 _ _ hLG (fun ps z => by cases z)
      have hS7 : SqL K G7 a (ns.map V.int) := mvS (fun b o _ hb no => eG7 b o hb no) hSG
      have hK7 : ∀ t ∈ ts, KeptAt CH G7 t := fun t ht => (hK t ht).mv fun b o hb _ no => eG7 b o hb no
      have hww : ∀ z ∈ wrongs (dueH way y), IsWord z := fun z hz => hab_word (wrongs_mem z hz)
      refine sq_if1 (fun b G8 => Same G7 G8 ∧ b = !(wrongs (dueH way y)).isEmpty) (fun Q q => ?_) ?_ ?_
      · refine ⟨_, rfl, (by show 0 ≤ sizeLine; decide), fun e ne => ?_⟩
        have se := Lw.Same.new (o := .lst []) (Same.refl G7) ne
        refine ⟨.list ((wrongs (dueH way y)).map PyData.str), .list [], .lst (SqL.of (se _ _ gw7)) (dp_strs _), .lst (SqL.of upd_same) .nil, shaped_strs _ hww, by decide +kernel, _, rfl, q _ _ ⟨se, ?_⟩⟩
        cases wrongs (dueH way y) with
        | nil => decide +kernel
        | cons z r => rfl
      · rintro G8 ⟨s8, hb8⟩
        rcases hv8 with ⟨z, r, t, ez, rfl, gt7⟩ | ⟨e0, _⟩
        · have gw8 := s8 _ _ gw7
          rw [ez] at gw8
          have gw9 : G8 wl = some (.lst (.str z :: r.map V.str)) := gw8
          have zw : IsWord z := hww z (by rw [ez]; exact List.mem_cons_self)
          refine sq_if1 (fun b G9 => Same G8 G9 ∧ b = false) (fun Q q => ?_) ?_ ?_
          · refine ⟨_, rfl, _, rfl, wl, _, 0, .str z, rfl, rfl, SqL.of gw9, (atI_nat (j := 0) rfl), (by show 4 ≤ sizeLine; decide), fun t2 nt2 => ?_⟩
            have st := Lw.Same.new (o := .tup [.str z, .bl true, .bl true, .bl false]) (Same.refl G8) nt2
            refine ⟨.tuple [.str z, .bool true, .bool true, .bool false], .tuple [.str z, .bool true, .bool true, .bool false], .tup (SqT.of (st _ _ (s8 _ _ gt7))) (.cons (.str _) (.cons (.bl _) (.cons (.bl _) (.cons (.bl _) .nil)))), .tup (SqT.of upd_same) (.cons (.str _) (.cons (.bl _) (.cons (.bl _) (.cons (.bl _) .nil)))), shaped_told zw _ _ _, shaped_told zw _ _ _, _, rfl, q _ _ ⟨st, by rw [eqv_told]; rfl⟩⟩
          · rintro G9 ⟨_, e⟩
            cases e
          · rintro G9 ⟨s9, _⟩
            have sA := s8.trans s9
            exact ⟨_, _, _, _, _, _, _, _, _, _, ts, rfl, sA.seq hS7, Lm.tabs_same sA T7, sA _ _ hL7, by omega, fun t ht => (hK7 t ht).same sA⟩
        · rw [e0] at hb8
          cases hb8
      · rintro G8 ⟨s8, hb8⟩
        rcases hv8 with ⟨z, r, t, ez, rfl, gt7⟩ | ⟨e0, rfl⟩
        · rw [ez] at hb8
          cases hb8
        refine sq_if1 (fun b G9 => G8 = G9 ∧ b = false) (fun Q q => ⟨_, rfl, rfl, _, rfl, q _ _ ⟨rfl, rfl⟩⟩) (fun G9 ⟨_, e⟩ => by cases e) ?_
        rintro _ ⟨rfl, _⟩
        refine ⟨_, rfl, ?_, _, rfl, _, rfl, way, g, p, y, rfl, hg7.same s8, py7.same s8, (fun z r e => by rw [e0] at e; cases e), fun _ h G9 s9 n9 hab => ⟨_, rfl, (by show 2 ≤ sizeLine; decide), fun t nt => ?_⟩⟩
        · exact .inl ⟨rfl, _, SqL.of (s8 _ _ hL7)⟩
        · have st := Lw.Same.new (o := .tup [.ref h, .ref d]) (Same.refl G9) nt
          have gt : (upd G9 t (.tup [.ref h, .ref d])) t = some (.tup [.ref h, .ref d]) := upd_same
          have habT : HabAtV CH (upd G9 t (.tup [.ref h, .ref d])) h (dueH way y) := by
            obtain ⟨dx, hh⟩ := hab
            exact ⟨dx, st _ _ hh⟩
          generalize upd G9 t (.tup [.ref h, .ref d]) = Gt at st gt habT ⊢
          have sA := s8.trans (s9.trans st)
          have hLt := sA _ _ hL7
          have kL : ∀ o, Keep L Gt (upd Gt L o) := fun o b u nb e => by
            rw [upd_ne nb]
            exact e
          have kk : ∀ o b u, Gt b = some u → (∀ xs, u ≠ .lst xs) → (∀ ps, u ≠ .tbl ps) → upd Gt L o b = some u := fun o b u hb n1 n2 => by
            rw [upd_ne (fun e => by rw [e, hLt] at hb; exact n1 _ (Option.some.inj hb).symm)]
            exact hb
          refine ⟨L, _, _, rfl, rfl, hLt, by rw [List.length_map]; omega, _, _, _, _, _, _, _, _, _, _, ts ++ [t], rfl, mvS (fun b o nb hb _ => by rw [upd_ne nb]; exact hb) (sA.seq hS7), Lm.tabs_keep hLt (fun ps z => by cases z) (fun q z => by unfold LamX.CodeO at z; cases z) (kL _) (Lm.tabs_same sA T7), by rw [upd_same, List.map_append]; rfl, by rw [List.length_append]; show ts.length + 1 ≤ i + 1; omega, fun t' ht' => ?_⟩
          rcases List.mem_append.mp ht' with h1 | h1
          · exact ((hK7 t' h1).same sA).mv (kk _)
          · rw [List.mem_singleton.mp h1]
            exact KeptAt.mv (kk _) ⟨h, d, dueH way y, gt, habT, ⟨dk, sA _ _ gd7, dv⟩, e0⟩
    · rintro σ G ⟨v2, v3, v4, v5, v6, v7, v8, v9, v10, v11, ts, rfl, hSG, hTG, hLG, lts, hK⟩
      dsimp only
      refine ⟨_, rfl, L, rfl, ⟨_, SqL.of hLG⟩, ?_⟩
      refine for_list (xs := ts.map V.ref) (fun i σ G2 => ∃ (u4 u5 u8 u9 : Option V), σ = [some (.ref a), some (.ref L), v2, v3, u4, u5, v6, v7, u8, u9, v10, v11] ∧ Same G G2) ⟨_, _, _, _, rfl, Same.refl G⟩ (fun j σ G2 _ ⟨_, _, _, _, _, s⟩ => SqL.of (s _ _ hLG)) ?_ ?_
      · rintro j x σ G2 hx ⟨u4, u5, u8, u9, rfl, s2⟩
        rw [List.getElem?_map] at hx
        obtain ⟨t, ht, rfl⟩ := Option.map_eq_some_iff.mp hx
        obtain ⟨h, d, y, gt, ⟨dx, hab⟩, ⟨dk, gd0, dv⟩, e0⟩ := (hK t (List.mem_of_getElem? ht)).same s2
        obtain ⟨ss, es, ew⟩ := right_vals e0
        refine ⟨t, _, rfl, SqT.of gt, rfl, _, _, rfl, _, _, rfl, rfl, ?_⟩
        have ev : [y.pr, y.la, y.go, y.sh] = ss.map V.str := es
        refine sq_set (fun x G3 => ∃ l, x = .ref l ∧ Same G2 G3 ∧ G3 l = some (.lst (ss.map V.str))) (fun Q q => ?_) ?_
        · refine ⟨_, rfl, h, CH, dx, _, _, rfl, hab, c.hb.cl, c.hb.n1, rfl, _, rfl, h, CH, dx, _, _, rfl, hab, c.hb.cl, c.hb.n2, rfl, _, rfl, h, CH, dx, _, _, rfl, hab, c.hb.cl, c.hb.n3, rfl, _, rfl, h, CH, dx, _, _, rfl, hab, c.hb.cl, c.hb.n4, rfl, (by show 4 ≤ sizeLine; decide), fun l nl => ?_⟩
          refine q _ _ ⟨l, rfl, Lw.Same.new (Same.refl G2) nl, ?_⟩
          rw [← ev]
          exact upd_same
        rintro _ G3 ⟨l, rfl, s3, gl⟩
        have gd3 := s3 _ _ gd0
        dsimp only
        refine s1_if (fun b G4 => Same G3 G4 ∧ b = false) (fun Q q => ?_) ?_ ?_
        · refine ⟨_, rfl, rfl, fun hl Ga sa nhl ghl => ⟨hl, rfl, ⟨_, SqL.of ghl⟩, fun D nD => ?_⟩⟩
          refine lc_list (xs := habNames.map V.str) (fun i G => Same Ga G ∧ G D = some (.lst ((habNames.take i).map y.of))) ⟨Lw.Same.new (Same.refl Ga) nD, upd_same⟩ (fun i G _ h => SqL.of (h.1 _ _ ghl)) ?_ ?_
          · rintro i x G hx ⟨sG, gD⟩
            rw [List.getElem?_map] at hx
            obtain ⟨n, hn, rfl⟩ := Option.map_eq_some_iff.mp hx
            have hi : i < 4 := (List.getElem?_eq_some_iff.mp hn).1
            refine ⟨rfl, _, rfl, _, rfl, d, y.of n, rfl, .inl ⟨dk, Sum.inr n, .inl (sG _ _ (sa _ _ gd3)), rfl, (dv n (List.mem_of_getElem? hn)).symm⟩, _, gD, ?_, same_at nD sG, ?_⟩
            · rw [List.length_map, List.length_take]
              omega
            · rw [upd_same, take_one hn, List.map_append]
              rfl
          · rintro G ⟨sG, gD⟩
            have gD2 : G D = some (.lst (habNames.map y.of)) := gD
            rw [es] at gD2
            refine ⟨.list (ss.map PyData.str), .list (ss.map PyData.str), .lst (SqL.of (sG _ _ (sa _ _ gl))) (dp_strs _), .lst (SqL.of gD2) (dp_strs _), shaped_strs _ ew, shaped_strs _ ew, _, rfl, q _ _ ⟨sa.trans sG, by rw [eqv_strs ew]; rfl⟩⟩
        · rintro G4 ⟨_, e⟩
          cases e
        · rintro G4 ⟨s4, _⟩
          exact ⟨_, _, _, _, rfl, s2.trans (s3.trans s4)⟩
      · rintro σ G2 ⟨u4, u5, u8, u9, rfl, s2⟩
        exact k _
end
end Lw

set_option Elab.async false
set_option linter.all false
set_option maxRecDepth 100000
set_option maxHeartbeats 1000000
namespace Hd2
open PySem PySem.Spec PyProof.Rows L2
/-! the keys of a written dict, in their order -/
theorem dic_ky {K : PySem.W.Frag} {w : World} {a : Addr} {ks : List PySem.Str} (h : He.dicW K a = some (He.keysIn w.params ks)) : Kd.KyD K w a ks := by
  obtain ⟨es, n, D⟩ := He.dicW_ok h
  refine ⟨es, n, D, ?_⟩
  unfold He.dicW at h
  rw [D.at_] at h
  simp only [D.low] at h
  have e : es.toList.map He.keyOf = He.keysIn w.params ks := Option.some.inj h
  have ln : es.size = ks.length := by
    have z := congrArg List.length e
    unfold He.keysIn at z
    rw [List.length_map, List.length_map, Array.length_toList] at z
    exact z
  refine ⟨ln, fun i d hd => ?_⟩
  have hi : i < ks.length := by
    rw [← ln]
    exact (Array.getElem?_eq_some_iff.mp hd).1
  have z := congrArg (fun l : List (Option (PySem.Str × Int)) => l[i]?) e
  unfold He.keysIn at z
  simp only [List.getElem?_map, Array.getElem?_toList, hd, List.getElem?_eq_getElem hi, Option.map_some] at z
  have z2 := Option.some.inj z
  refine ⟨ks[i], ?_⟩
  unfold He.keyOf at z2
  split at z2
  · rename_i x t hk
    have e4 : x = ks[i] := congrArg Prod.fst (Option.some.inj z2)
    exact ⟨t, List.getElem?_eq_getElem hi, by rw [hk, e4]⟩
  · cases z2
theorem Says.ky {fa : List He.Fa} {fn : List He5.DefA} {ts : List He.Tab} {own : PySem.W.Frag → Bool} {w : World} {K : PySem.W.Frag} (c : Says fa fn ts own w K) (i : Nat) {t : He.Tab} (h : ts[i]? = some t := by rfl) : Kd.KyD K w (t.1 K) t.2 := by
  have e := congrArg (fun l : Tb => l[i]?) c.2.1
  simp only [tbs, tbv, List.getElem?_map, h] at e
  exact dic_ky (Option.some.inj e)
end Hd2

set_option Elab.async false
set_option linter.all false
set_option maxRecDepth 100000
set_option maxHeartbeats 0
namespace Hx
open PySem PySem.Spec PyProof.Rows L2
/-! an own error class with an own __init__, over any base: what the head looks up -/
def oexB (K : PySem.W.Frag) (C : Addr) (tl : List Value) (nw : String) : Bool := match K.lookup C with
  | some ⟨.type t, _, .cls ⟨_, _, .ref c :: bm, _, _, true, _, _, _, _, false⟩, sl⟩ => (decide (t = "type") && (decide (c = C) && PySem.Ge.tailB tl bm)) && (match sl.toList with
    | [_, _, _, _, some (.builtin z), _] => decide (z = nw)
    | _ => false)
  | _ => false
def clsB (K : PySem.W.Frag) (C : Addr) (tl : List Value) (nw : String) : Bool := oexB K C tl nw && (He.eqO (PySem.W.findIn K (.ref C) "__setattr__") (some (some (.builtin "object.__setattr__"))) && (decide (PySem.W.subIn K (.ref C) (.type "BaseException") = some true) &&
  (decide (PySem.W.typeIn K (.ref C) = some (.type "type")) && PySem.W.keepIn K (.ref C))))
theorem oexB_ok {K : PySem.W.Frag} {C : Addr} {tl : List Value} {nw : String} (T : PySem.Ge.Tl tl) (h : clsB K C tl nw = true) : Ge.OexT K C tl nw := by
  obtain ⟨h1, h⟩ := He.ba h
  obtain ⟨h2, h⟩ := He.ba h
  obtain ⟨h3, h⟩ := He.ba h
  obtain ⟨h4, h5⟩ := He.ba h
  refine ⟨T, ?_, He.eqO_ok h2, of_decide_eq_true h3, of_decide_eq_true h4, h5⟩
  unfold oexB at h1
  split at h1
  · rename_i t dd nm bs c bm N qn sn sub ab col sl e
    obtain ⟨q1, q2⟩ := He.ba h1
    obtain ⟨q3, q4⟩ := He.ba q1
    obtain ⟨q5, q6⟩ := He.ba q4
    have e1 := of_decide_eq_true q3
    have e2 := of_decide_eq_true q5
    subst e1 e2
    split at q2
    · rename_i k0 k1 k2 k3 z k5 es
      have e3 := of_decide_eq_true q2
      subst e3
      obtain ⟨sl⟩ := sl
      simp only at es
      subst es
      exact ⟨nm, qn, N, bs, bm, sn, sub, ab, col, dd, k0, k1, k2, k3, k5, e, q6⟩
    · cases q2
  · cases h1
end Hx

set_option Elab.async false
set_option linter.all false
set_option maxRecDepth 100000
set_option maxHeartbeats 0
namespace Lw
open PySem PySem.Spec PyProof.Rows L2
def fn0 : List He5.DefA := [dG "copied" sCopied, dM "BadHabit" "__init__" "BadHabit.__init__" sBhI, dG "_law_draw" sDraw, dG "_law_source" sSource, dG "_law_pick" sPick, dG "_law_word" sWord, dG "_law_values" sValues, dG "_law_names_of_habits" sNamesH, dG "_law_value" sValue, dM "Habits" "__init__" "Habits.__init__" sHabI [("present", .str "stop"), ("lacking", .str "stop"), ("gone", .str "stop"), ("shared", .str "one")], dG "_law_made" sMade33, dG "_law_caught" sCaught]
def fn1 : List He5.DefA := [dG "law" sLaw]
def fn : List He5.DefA := fn0 ++ (fn1)
def glos0 : List Str := ["Habits", "VALUES", "BadHabit", "CopiesError", "copied", "_law_draw", "_law_source", "_law_pick", "_law_word", "_law_values", "_law_names_of_habits", "_law_value"]
def glos1 : List Str := ["_law_made", "_law_caught", "law"]
def glos : List Str := glos0 ++ (glos1)
def frees0 : List Str := ["len", "abs", "int", "range", "sum", "isinstance", "list", "tuple", "dict", "max", "min", "enumerate"]
def frees1 : List Str := ["ValueError", "LookupError"]
def frees : List Str := frees0 ++ (frees1)
def fas0 : List He.Fa := [.cls "Habits", .mkr "Habits", .noat "Habits" "present", .noat "Habits" "lacking", .noat "Habits" "gone", .noat "Habits" "shared", .exm "BadHabit" "BadHabit" true, .meth "BadHabit" "__init__"]
def fas : List He.Fa := fas0
def fa : List He.Fa := glos.map He.Fa.glo ++ (frees.map He.Fa.free ++ fas)
def tabs : List He.Tab := [(fun K => He.ga K "VALUES", habNames)]
def hvB (K : PySem.W.Frag) (q : Str × List Str) : Bool := match PySem.W.nsIn K (He.ga K "VALUES") q.1 with
  | some (some (.ref t)) => tupB K t (q.2.map V.str)
  | _ => false
def badB (K : PySem.W.Frag) (C : Addr) : Bool := He.eqO (PySem.W.findIn K (.ref C) "habit") (some none) && (decide (PySem.W.kitOne K (.ref C) (.ref (He.ga K "CopiesError")) = some true) && (decide (PySem.W.kitOne K (.ref C) (.type "ValueError") = some true) && decide (PySem.W.kitOne K (.ref C) (.type "LookupError") = some false)))
def tf : List He.Defn := [("law", none)]
def own (K : PySem.W.Frag) : Bool := habVals.all (hvB K) && (Hx.clsB K (He.ga K "BadHabit") Ge.vlTail "ValueError.__new__" && (badB K (He.ga K "BadHabit") && (Hk.excB K (He.ga K "BadHabit"))))
abbrev R : PySem.W.OpenRow := PySem.W.OpenLaw.row PySem.Challenge.rw_filteredcopies_k33_habits_made
abbrev qv : Program := PySem.W.view R.prog [20]
def names0 : List Str := ["_wall", "copied", "CopiesError", "BadHabit", "VALUES", "Habits", "_law_source", "_law_draw", "_law_pick", "_law_word", "_law_words", "_law_values", "_law_names_of_habits", "_law_caught"]
def names1 : List Str := ["_law_value", "_law_made"]
def names : List Str := names0 ++ (names1)
abbrev hk : PySem.W.Hook := Hd4.hook 6 fa fn tabs tf own
def ob (s : PySem.W.SharedT) : Hd4.Al := Hd4.obG 6 fa fn tabs tf own (HandSHeadRun.getT s)
theorem ob_eq (s : PySem.W.SharedT) : ob s = hk.obs s.abs := Hd4.obG_eq (HandSHeadRun.getT_eq s)
theorem run1 (w : World) : HandSHeadRun.RunEq R qv hk ob 9000 names (w.withFollow "special-get-raises" false) := by intro os; kernel_rfl
theorem run2 (w : World) : HandSHeadRun.RunEq R qv hk ob 9000 names (w.withFollow "special-get-raises" true) := by intro os; kernel_rfl
theorem run (w : World) : HandSHeadRun.RunEq R qv hk ob 9000 names w :=
  PySem.W.byRow2 "special-get-raises" (P := fun w => HandSHeadRun.RunEq R qv hk ob 9000 names w) run1 run2 w
end Lw

set_option Elab.async false
set_option linter.all false
set_option maxRecDepth 100000
set_option maxHeartbeats 4000000
namespace Lw
open PySem PySem.Spec PyProof.Rows L2 Lg
section
variable {K : PySem.W.Frag} {h : Heap} {mg : Str → Option Value} {w : World}
theorem f_glo (X : K.In h) (G : h.Ns mainGlobals mg) (c : Hd2.Says fa fn tabs own w K) {x : Str} (hx : x ∈ glos) : mg x = some (.ref (He.ga K x)) :=
  He.glo_ok X G (c.fact (f := .glo x) (List.mem_append_left _ (List.mem_map_of_mem hx)))
theorem f_free (X : K.In h) (G : h.Ns mainGlobals mg) (c : Hd2.Says fa fn tabs own w K) {x : Str} (hx : x ∈ frees) : mg x = none :=
  He.free_ok X G (c.fact (f := .free x) (List.mem_append_right _ (List.mem_append_left _ (List.mem_map_of_mem hx))))
theorem f_one (c : Hd2.Says fa fn tabs own w K) {f : He.Fa} (hf : f ∈ fas) : f.ok K = true := c.fact (List.mem_append_right _ (List.mem_append_right _ hf))
theorem f_hv {dV : Addr} (D : ∃ es n, KDict K w dV es n) (hd : dV = He.ga K "VALUES") (h : habVals.all (hvB K) = true) : ∀ q ∈ habVals, ∃ a, KDct K w dV q.1 (.ref a) ∧ ∀ H, SqT K H a (q.2.map V.str) := fun q hq => by
  have z := List.all_eq_true.mp h q hq
  subst hd
  unfold hvB at z
  split at z
  · rename_i t e
    obtain ⟨es, n, D⟩ := D
    exact ⟨t, ⟨es, n, _, D.at_, D.lit, e, rfl⟩, fun H => tupB_ok z⟩
  · cases z
end
theorem facts {P : Program} {w : World} {K : PySem.W.Frag} {h : Heap} {mg : Str → Option Value} {f : Addr} (X : K.In h) (G : h.Ns mainGlobals mg) (hfa : mg ("law" : Str) = some (.ref f)) (c : Hd2.Says fa fn tabs own w K) :
    ∃ fd : FuncData, (∀ (s : Shared) (v : Value), BindsTo s fd ⟨[v], []⟩ [("script", v)]) ∧ ∀ base : Heap, K.In base → base.Ns mainGlobals mg → LamX.TabB base mg (He.cT K lawP).1 (He.cT K lawP).2 → FnOk P w K mg base CX0 9 f fd ["script"] (spLaw K) := by
  have gl : ∀ {x : Str}, x ∈ glos → mg x = some (.ref (He.ga K x)) := fun hx => f_glo X G c hx
  have fr : ∀ {x : Str}, x ∈ frees → mg x = none := fun hx => f_free X G c hx
  have fc : ∀ {f : He.Fa}, f ∈ fas → f.ok K = true := fun hf => f_one c hf
  have oo := c.2.2
  obtain ⟨oV, oo⟩ := He.ba oo
  obtain ⟨oR1, oo⟩ := He.ba oo
  obtain ⟨oR2, oo⟩ := He.ba oo
  have oR3 := oo
  obtain ⟨d0, D0⟩ := c.1.def_ 0 (d := dG "copied" sCopied) rfl
  obtain ⟨d1, D1⟩ := c.1.def_ 1 (d := dM "BadHabit" "__init__" "BadHabit.__init__" sBhI) rfl
  obtain ⟨d2, D2⟩ := c.1.def_ 2 (d := dG "_law_draw" sDraw) rfl
  obtain ⟨d3, D3⟩ := c.1.def_ 3 (d := dG "_law_source" sSource) rfl
  obtain ⟨d4, D4⟩ := c.1.def_ 4 (d := dG "_law_pick" sPick) rfl
  obtain ⟨d5, D5⟩ := c.1.def_ 5 (d := dG "_law_word" sWord) rfl
  obtain ⟨d6, D6⟩ := c.1.def_ 6 (d := dG "_law_values" sValues) rfl
  obtain ⟨d7, D7⟩ := c.1.def_ 7 (d := dG "_law_names_of_habits" sNamesH) rfl
  obtain ⟨d8, D8⟩ := c.1.def_ 8 (d := dG "_law_value" sValue) rfl
  obtain ⟨d9, D9⟩ := c.1.def_ 9 (d := dM "Habits" "__init__" "Habits.__init__" sHabI [("present", .str "stop"), ("lacking", .str "stop"), ("gone", .str "stop"), ("shared", .str "one")]) rfl
  obtain ⟨d10, D10⟩ := c.1.def_ 10 (d := dG "_law_made" sMade33) rfl
  obtain ⟨d11, D11⟩ := c.1.def_ 11 (d := dG "_law_caught" sCaught) rfl
  obtain ⟨d12, D12⟩ := c.1.def_ 12 (d := dG "law" sLaw) rfl
  have e := hfa.symm.trans (gl (x := "law") (by decide +kernel))
  cases e
  refine ⟨d12, fun s v => FunD.bindsA (ps := ["script"]) D12 (fun _ _ _ _ _ _ us hl => match us, hl with | [_], _ => rfl) s [v] rfl, fun base KB GB TB => ?_⟩
  have TD : TxtD mg := ⟨fr (by decide +kernel), fr (by decide +kernel), fr (by decide +kernel), fr (by decide +kernel)⟩
  have TH : TxtHb K (He.ga K "Habits") := ⟨He.cls_ok (fc (f := .cls "Habits") (List.mem_of_getElem? (i := 0) rfl)), He.noat_ok (fc (f := .noat "Habits" "present") (List.mem_of_getElem? (i := 2) rfl)), He.noat_ok (fc (f := .noat "Habits" "lacking") (List.mem_of_getElem? (i := 3) rfl)), He.noat_ok (fc (f := .noat "Habits" "gone") (List.mem_of_getElem? (i := 4) rfl)), He.noat_ok (fc (f := .noat "Habits" "shared") (List.mem_of_getElem? (i := 5) rfl))⟩
  have HV : HabV K w mg (He.ga K "VALUES") := ⟨gl (by decide +kernel), c.ky 0 (t := (fun K => He.ga K "VALUES", habNames)) rfl, f_hv (c.tab 0 (t := (fun K => He.ga K "VALUES", habNames)) rfl) rfl oV⟩
  have cC1 : Cal P w K mg base CX0 "copied" 1 ["value"] (spCopF K) := ⟨_, _, gl (by decide +kernel), D0.kp, ok_copF D0 ⟨fr (by decide +kernel), fr (by decide +kernel), fr (by decide +kernel), fr (by decide +kernel)⟩, D0.bindsN fun _ _ _ _ _ _ us hl => match us, hl with | [_], _ => rfl⟩
  obtain ⟨r1, r⟩ := He.ba oR2
  obtain ⟨r2, r⟩ := He.ba r
  obtain ⟨r3, r4⟩ := He.ba r
  obtain ⟨excR, xfR⟩ := Hk.excB_ok oR3
  have MR := He.meth_ok (fc (f := .meth "BadHabit" "__init__") (List.mem_of_getElem? (i := 7) rfl))
  have TR : TxtBh K mg (He.ga K "BadHabit") "ValueError.__new__" := ⟨Hx.oexB_ok Ge.tl_vl oR1, He.eqO_ok r1, gl (by decide +kernel)⟩
  have BH : BhT P w K mg base (He.ga K "BadHabit") := ⟨_, _, _, TR, PySem.F.excBase_ValueError, MR.at_, beq_iff_eq.mp MR.fn, ok_bhI D1 TR cC1, D1.bindsN fun _ _ _ _ _ _ us hl => match us, hl with | [_, _], _ => rfl⟩
  have cD := cal_draw (P := P) (w := w) (base := base) TD ⟨_, _, gl (by decide +kernel), D2⟩
  have cS : Cal P w K mg base CX0 "_law_source" 1 ["script", "at"] (spSource K) := ⟨_, _, gl (by decide +kernel), D3.kp, ok_source D3 TD (fr (by decide +kernel)), D3.bindsN fun _ _ _ _ _ _ us hl => match us, hl with | [_, _], _ => rfl⟩
  have cPk : Cal P w K mg base CX0 "_law_pick" 2 ["source", "some"] (spOf K) := ⟨_, _, gl (by decide +kernel), D4.kp, ok_pick D4 TD cD, D4.bindsN fun _ _ _ _ _ _ us hl => match us, hl with | [_, _], _ => rfl⟩
  have cWd : Cal P w K mg base CX0 "_law_word" 2 ["source", "taken"] (spWord2 K) := ⟨_, _, gl (by decide +kernel), D5.kp, ok_word D5 TD cD, D5.bindsN fun _ _ _ _ _ _ us hl => match us, hl with | [_, _], _ => rfl⟩
  have cVa : Cal P w K mg base CX0 "_law_values" 1 ["habit"] (spValues) := ⟨_, _, gl (by decide +kernel), D6.kp, ok_values D6, D6.bindsN fun _ _ _ _ _ _ us hl => match us, hl with | [_], _ => rfl⟩
  have cNm : Cal P w K mg base CX0 "_law_names_of_habits" 1 [] (spNamesH) := ⟨_, _, gl (by decide +kernel), D7.kp, ok_namesH D7, D7.bindsN fun _ _ _ _ _ _ us hl => match us, hl with | [], _ => rfl⟩
  have cVl : Cal P w K mg base CX0 "_law_value" 3 ["source", "habit"] (spValue K) := ⟨_, _, gl (by decide +kernel), D8.kp, ok_value D8 cD cPk cWd cVa, D8.bindsN fun _ _ _ _ _ _ us hl => match us, hl with | [_, _], _ => rfl⟩
  have FHa := ok_habV (P := P) (w := w) (base := base) D9 TH BH HV
  have cMd : Cal P w K mg base (L2.CX P w) "_law_made" 6 ["way", "given"] (spMadeV (He.ga K "Habits") (He.ga K "BadHabit")) := ⟨_, _, gl (by decide +kernel), D10.kp, ok_madeV D10 (He.mkr_ok (fc (f := .mkr "Habits") (List.mem_of_getElem? (i := 1) rfl))) D9 FHa (gl (by decide +kernel)) cNm, D10.bindsN fun _ _ _ _ _ _ us hl => match us, hl with | [_, _], _ => rfl⟩
  have CA : TxtCa K mg (He.ga K "BadHabit") (He.ga K "CopiesError") := ⟨fr (by decide +kernel), fr (by decide +kernel), fr (by decide +kernel), gl (by decide +kernel), gl (by decide +kernel), excR, xfR, He.eqO_ok r1, He.exm_ok (fc (f := .exm "BadHabit" "BadHabit" true) (List.mem_of_getElem? (i := 6) rfl)), of_decide_eq_true r2, of_decide_eq_true r3, of_decide_eq_true r4⟩
  exact ok_law D12 ⟨cS, cD, cVa, cNm, cVl, cMd, ⟨_, _, gl (by decide +kernel), D11⟩, CA, TH, fr (by decide +kernel), fr (by decide +kernel), fr (by decide +kernel), fr (by decide +kernel), fr (by decide +kernel), fr (by decide +kernel)⟩ TB
end Lw

open PySem PySem.W PyProof.Rows in
theorem PySem.Challenge.cw_filteredcopies_k33_habits_made_holds : PySem.Challenge.rw_filteredcopies_k33_habits_made.Holds := by
  w_on; o_law
  refine HandSHeadRun.head_any (r := Lw.R) (q := Lw.qv) (H := Lw.hk) (ob := Lw.ob) (M := 9000) (loose := Lw.names) (d := HandSHeadRun.topDef Lw.R.prog 20) (kwd := []) Lw.ob_eq
    (by kernel_rfl) (fun s => by kernel_rfl) Lw.run (by kernel_rfl) (by kernel_rfl) (by kernel_rfl) (by rfl) (by first | assumption | decide +kernel) (by decide +kernel) ⟨rfl, rfl, rfl, rfl, rfl, by decide +kernel⟩ ?hw ?hc
  case hw => w_witness2
  case hc =>
    refine LamX.walk_ofTsE (l := PySem.Challenge.rw_filteredcopies_k33_habits_made) (n := 63) (k := 9) (x := "script") (CX := fun _ => L2.CX0) rfl (by decide) (by kernel_rfl) ⟨rfl, by decide, by decide⟩ ?F (fun _ _ _ _ _ z => z)
    intro w mg fa h Y G hmg0
    obtain ⟨K, KX, c⟩ := Y
    have hmg : mg ("law" : PySem.Str) = some (.ref fa) := by
      have e : (HandSHeadRun.topDef Lw.R.prog 20).name = ("law" : PySem.Str) := by kernel_rfl
      rw [← e]
      exact hmg0
    obtain ⟨fd, hb, hF⟩ := Lw.facts (P := (PySem.Challenge.rw_filteredcopies_k33_habits_made).prog) (w := w) KX G hmg c.t
    have one : ∀ {p : PySem.Addr × PySem.Addr}, p ∈ [He.cT K Lw.lawP] → p = He.cT K Lw.lawP := fun hp => List.mem_singleton.mp hp
    have inT : Lw.lawP ∈ Lw.tf := List.mem_singleton.mpr rfl
    refine ⟨K, KX, fd, [He.cT K Lw.lawP], Lw.spLaw K, fun p hp => ?_, fun p hp => ?_, fun p hp => ?_, hb, fun H a ns hl _ hT hS => ⟨a, ns, rfl, hS, hl, hT _ (List.mem_singleton.mpr rfl), fun _ => rfl⟩, fun base KB GB hTB => hF base KB GB (hTB _ (List.mem_singleton.mpr rfl))⟩
    · rw [one hp]
      exact c.empty _ inT
    · rw [one hp]
      exact c.out _ inT
    · rw [one hp]
      exact PySem.W.codeHd_of_K KX (c.hd _ inT)
