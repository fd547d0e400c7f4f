import PyProof.Rows.All
import Wide.All
import OpenK.AllK
import Wide.FinOn
import HandS.Base
import HandS.Call
import HandS.List
import HandS.Comp
import HandS.Dict
import HandS.Iter
import HandS.Text
import HandS.Ends
import HandS.Words
import HandS.WordsList
import HandS.Exc
import HandS.ExcOwn
import HandS.TryOnly
import HandS.ExcInit
import HandS.More
import HandS.Defaults
import HandS.Walk
import KE.KExcIs
import HandS.IsInst
import HandS.ExcIs
import HandS.ExcField
import HandS.Style
import HandS.WordsExc
import HandS.Head0
import HandS.Head1
import HandS.Head2
import HandS.HeadEnd
import HandS.HeadHook1
import HandS.HeadHook2
import HandS.HeadHook3
import HandS.ExcCtx
import HandS.HotCalls
import HandS.ClsMeth
import HandS.Star
import HandS.MakeKwOnly
import HandS.Wide
import HandS.ListItems
import HandS.Finally
import KE.KDictList
import PyProof.FactsAll.dict_3
import HandS.HeadNt
import HandS.Property
import PyProof.Rows.RuleB_bool
import KE.KDictZip
import HandS.Zip
import HandS.Set
import HandS.SetBool
import HandS.SetKeys
import PyProof.EvalArms
import HandS.DictComp
import HandS.SetFor
import HandS.RaiseMore
import PyProof.ReprRoads
import HandS.OwnEq
import KE.KExcInit
import HandS.WordsDict
import HandS.SortInts
import KE.KEqNest
import KE.KDictLaw
import HandS.IterVal
import HandS.OwnIter
import OpenK.KOps
import HandS.Conv
import PyProof.EqAt
import PyProof.NeKinds
import PySem.Challenge.RW_filteredcopies_k43_whole_keys_apart
set_option Elab.async false
set_option linter.all false
set_option maxRecDepth 100000
set_option maxHeartbeats 4000000
namespace Lw
open PySem PySem.Spec PyProof.Rows L2
abbrev MethD (K : PySem.W.Frag) (x q : Str) (st : Stmt) (f : Addr) (fd : FuncData) : Prop := FunD K x q (defArgs st) (defBody st) (defScope st) [] [] f fd
/-! heaps: all but what stands at a is kept -/
def Keep (a : Addr) (H H' : Hp) : Prop := ∀ b o, b ≠ a → H b = some o → H' b = some o
theorem Keep.refl {a : Addr} (H : Hp) : Keep a H H := fun _ _ _ h => h
theorem Keep.trans {a : Addr} {H H1 H2 : Hp} (x : Keep a H H1) (y : Keep a H1 H2) : Keep a H H2 := fun b o n h => y b o n (x b o n h)
theorem Keep.of_same {a : Addr} {H H' : Hp} (s : Same H H') : Keep a H H' := fun b o _ h => s b o h
theorem Keep.upd {a : Addr} {H H' : Hp} {o : HO} (k : Keep a H H') : Keep a H (upd H' a o) := fun b u n h => by
  rw [upd_ne n]
  exact k b u n h
theorem Keep.new {a p : Addr} {H H' : Hp} {o : HO} (k : Keep a H H') (hp : H' p = none) : Keep a H (L2.upd H' p o) := fun b u n h => by
  rw [upd_ne (ne_of_none (k b u n h) hp)]
  exact k b u n h
theorem Keep.seq {K : PySem.W.Frag} {a b : Addr} {H H' : Hp} {xs : List V} (k : Keep a H H') (n : b ≠ a) (h : SqL K H b xs) : SqL K H' b xs := by
  rcases h with (h | ⟨o, h⟩) | h
  · exact .inl (.inl (k _ _ n h))
  · exact .inl (.inr ⟨o, k _ _ n h⟩)
  · exact .inr h
theorem Keep.seqT {K : PySem.W.Frag} {a b : Addr} {H H' : Hp} {xs : List V} (k : Keep a H H') (n : b ≠ a) (h : SqT K H b xs) : SqT K H' b xs := by
  rcases h with (h | ⟨o, h⟩) | h
  · exact .inl (.inl (k _ _ n h))
  · exact .inl (.inr ⟨o, k _ _ n h⟩)
  · exact .inr h
/-- the drawing's source: three numbers; n bounds how often was drawn -/
def Src (H : Hp) (a : Addr) (n : Nat) : Prop := ∃ d s t : Int, H a = some (.lst [.int d, .int s, .int t]) ∧ 0 ≤ d ∧ 0 ≤ s ∧ s < 9223372036854775808 ∧ 0 ≤ t ∧ t ≤ (n : Int)
theorem Src.mono {H : Hp} {a : Addr} {n m : Nat} (h : Src H a n) (l : n ≤ m) : Src H a m := by
  obtain ⟨d, s, t, h1, h2, h3, h4, h5, h6⟩ := h
  exact ⟨d, s, t, h1, h2, h3, h4, h5, by omega⟩
theorem Src.new {H : Hp} {a p : Addr} {n : Nat} {o : HO} (h : Src H a n) (hp : H p = none) : Src (upd H p o) a n := by
  obtain ⟨d, s, t, h1, h2⟩ := h
  exact ⟨d, s, t, by rw [upd_ne (ne_of_none h1 hp)]; exact h1, h2⟩
theorem Src.ne {H : Hp} {a p : Addr} {n : Nat} (h : Src H a n) (hp : H p = none) : p ≠ a := by
  obtain ⟨d, s, t, h1, _⟩ := h
  exact (ne_of_none h1 hp).symm
abbrev big : Nat := 1000000000
/-! steps: a statement's reading by what its expression comes to -/
section
variable {te : TE} {c : TT} {u v t1 t2 : TS} {D : Ends} {σ : L2.St} {H : Hp} {i : Nat}
theorem sq_set (P : V → Hp → Prop) (h : ∀ Q : VK, (∀ x H', P x H' → Q x H') → te σ H Q) (k : ∀ x H', P x H' → u D (σ.set i (some x)) H') : tSeq (tAsg te (gName i)) u D σ H := h _ k
theorem s1_set (P : V → Hp → Prop) (h : ∀ Q : VK, (∀ x H', P x H' → Q x H') → te σ H Q) (k : ∀ x H', P x H' → D.nx (σ.set i (some x)) H') : (tAsg te (gName i)) D σ H := h _ k
theorem sq_par {j : Nat} {ta : TA} (P : V → V → Hp → Prop) (h : ∀ Q : List V → Hp → Prop, (∀ x y H', P x y H' → Q [x, y] H') → ta σ H Q) (k : ∀ x y H', P x y H' → u D ((σ.set i (some x)).set j (some y)) H') : tSeq (tPar i j ta) u D σ H := h _ fun x y H' p => ⟨x, y, rfl, k x y H' p⟩
theorem sq_do (P : V → Hp → Prop) (h : ∀ Q : VK, (∀ x H', P x H' → Q x H') → te σ H Q) (k : ∀ x H', P x H' → u D σ H') : tSeq (tDrop te) u D σ H := h _ k
theorem sq_if (P : Bool → Hp → Prop) (h : ∀ Q : Bool → Hp → Prop, (∀ b H', P b H' → Q b H') → c σ H Q) (kt : ∀ H', P true H' → t1 { D with nx := u D } σ H') (kf : ∀ H', P false H' → t2 { D with nx := u D } σ H') : tSeq (tIfS c t1 t2) u D σ H :=
  h _ fun b H' p => by
    cases b with
    | true => rw [if_pos rfl]; exact kt H' p
    | false => rw [if_neg Bool.false_ne_true]; exact kf H' p
theorem sq_if1 (P : Bool → Hp → Prop) (h : ∀ Q : Bool → Hp → Prop, (∀ b H', P b H' → Q b H') → c σ H Q) (kt : ∀ H', P true H' → t1 { D with nx := u D } σ H') (kf : ∀ H', P false H' → u D σ H') : tSeq (tIfS c t1 tNext) u D σ H := sq_if P h kt kf
theorem s1_if (P : Bool → Hp → Prop) (h : ∀ Q : Bool → Hp → Prop, (∀ b H', P b H' → Q b H') → c σ H Q) (kt : ∀ H', P true H' → t1 D σ H') (kf : ∀ H', P false H' → t2 D σ H') : (tIfS c t1 t2) D σ H :=
  h _ fun b H' p => by
    cases b with
    | true => rw [if_pos rfl]; exact kt H' p
    | false => rw [if_neg Bool.false_ne_true]; exact kf H' p
theorem s1_ret (P : V → Hp → Prop) (h : ∀ Q : VK, (∀ x H', P x H' → Q x H') → te σ H Q) (k : ∀ x H', P x H' → D.rt x H') : tRet te D σ H := h _ k
end
/-! promises -/
def spSource (K : PySem.W.Frag) : Sp := fun vs H Q _ => ∃ (a : Addr) (ns : List Int) (i : Int), vs = [.ref a, .int i] ∧ SqL K H a (ns.map V.int) ∧ ns.length ≤ 1000 ∧ 0 ≤ i ∧ i ≤ 1000 ∧
  ∀ p H', H p = none → Same H H' → Src H' p 0 → Q (.ref p) H'
def spDraw : Sp := fun vs H Q _ => ∃ (a : Addr) (n : Nat) (m : Int), vs = [.ref a, .int m] ∧ Src H a n ∧ n ≤ 1000000000 ∧ 0 < m ∧ m ≤ 1000000000 ∧
  ∀ H' i, Keep a H H' → Src H' a (n + 1) → 0 ≤ i → i < m → Q (.int i) H'
def spOf (K : PySem.W.Frag) : Sp := fun vs H Q _ => ∃ (a b : Addr) (n : Nat) (xs : List V), vs = [.ref a, .ref b] ∧ Src H a n ∧ n ≤ 1000000000 ∧ b ≠ a ∧ SqL K H b xs ∧ xs ≠ [] ∧ xs.length ≤ 100000 ∧
  ∀ H' x, Keep a H H' → Src H' a (n + 1) → x ∈ xs → Q x H'
def spNumber : Sp := fun vs H Q _ => ∃ (a : Addr) (n : Nat), vs = [.ref a] ∧ Src H a n ∧ n ≤ 900000000 ∧
  ∀ H' i, Keep a H H' → Src H' a (n + 8) → Q (.int i) H'
structure TxtD (mg : Str → Option Value) : Prop where
  len : mg "len" = none
  abs : mg "abs" = none
  int : mg "int" = none
  range : mg "range" = none
abbrev FnP (K : PySem.W.Frag) (x : Str) (st : Stmt) (f : Addr) (fd : FuncData) : Prop := FunD K x x (defArgs st) (defBody st) (defScope st) [] [] f fd
section
variable {P : Program} {w : World} {K : PySem.W.Frag} {mg : Str → Option Value} {base : Heap}
theorem bool_ite {c : Prop} [Decidable c] {A B : Prop} (h1 : c → A) (h2 : ¬ c → B) : if decide c = true then A else B := by
  by_cases h : c
  · rw [decide_eq_true h, if_pos rfl]; exact h1 h
  · rw [decide_eq_false h, if_neg Bool.false_ne_true]; exact h2 h
theorem atI_get {α : Type} {xs : List α} {i : Int} (h0 : 0 ≤ i) (h1 : i < xs.length) : ∃ x, atI xs i = some x ∧ x ∈ xs := by
  have e : i.toNat < xs.length := by omega
  refine ⟨xs[i.toNat], ?_, List.getElem_mem e⟩
  unfold atI ixN
  rw [if_pos h0, if_pos h1]
  simp [e]
theorem fmod_src (x : Int) : 0 ≤ x.fmod 2305843009213693951 ∧ x.fmod 2305843009213693951 < 2305843009213693951 :=
  ⟨Int.fmod_nonneg_of_pos x (by decide), Int.fmod_lt_of_pos x (by decide)⟩

/-! a def of the top, called by its name -/
def DefIs (K : PySem.W.Frag) (mg : Str → Option Value) (x : Str) (st : Stmt) : Prop := ∃ f fd, mg x = some (.ref f) ∧ FnP K x st f fd
structure Cal (P : Program) (w : World) (K : PySem.W.Frag) (mg : Str → Option Value) (base : Heap) (CX : CXT) (x : Str) (k : Nat) (ps : List Str) (sp : Sp) : Prop where
  ex : ∃ f fd, mg x = some (.ref f) ∧ PySem.W.keepIn K (.ref f) = true ∧ FnOk P w K mg base CX k f fd ps sp ∧ Binds K fd ps []
end
section
variable {X : Cx} {x : Str} {p pos : Pos} {e : Expr} {es : List Expr} {t : TA} {k : Nat} {ps : List Str} {sp : Sp}
theorem pe_cal (c : Cal X.prog X.w X.K X.mg X.base CX0 x k ps sp) (hr : Room k X.A) (ha : PA X (e :: es) t) (hg : Gl X x := by rfl) (hdb : (x == ("__debug__" : Str)) = false := by decide)
    (he : starEach (e :: es) X.env = (false, eval e X.env) :: starEach es X.env := by rfl) (hpl : (backTo pos (starEach es X.env)).any (·.1) = false := by rfl) :
    PE X (.Call (.Name x p) (e :: es) [] pos) (tCall sp [] E0 t) := by
  obtain ⟨f, fd, hm, hk, F, b⟩ := c.ex
  exact pe_call F hr hg hm hk b .nil pass0 ha hdb he hpl
end
section
variable {P : Program} {w : World} {K : PySem.W.Frag} {mg : Str → Option Value} {base : Heap}
end
/-! words -/
def IsWord (z : Str) : Prop := 1 ≤ z.length ∧ z.length ≤ 8 ∧ ∀ c ∈ z.cps.toList, 97 ≤ c ∧ c ≤ 122
def abc : List Nat := [97, 98, 99, 100, 101, 102, 103, 104, 105, 106, 107, 108, 109, 110, 111, 112, 113, 114, 115, 116, 117, 118, 119, 120, 121, 122]
def sign (c : Nat) : Str := ⟨#[c]⟩
abbrev letters : Str := "abcdefghijklmnopqrstuvwxyz"
theorem letters_eq : letters = ⟨abc.toArray⟩ := by decide +kernel
theorem abc_le {c : Nat} (h : c ∈ abc) : 97 ≤ c ∧ c ≤ 122 := by
  have h2 : ∀ c ∈ abc, 97 ≤ c ∧ c ≤ 122 := by decide
  exact h2 c h
theorem tl_sign (c : Nat) : (sign c).cps.toList = [c] := rfl
theorem joinL_flat : ∀ l : List (List Nat), TL.joinL [] l = l.flatten
  | [] => rfl
  | [p] => by simp [TL.joinL]
  | p :: q :: r => by
    show p ++ ([] ++ TL.joinL [] (q :: r)) = _
    rw [joinL_flat (q :: r)]
    simp
theorem join_signs (e : Str) (he : e.cps = #[]) (cs : List Nat) : (Txt.join e (cs.map sign)).cps.toList = cs := by
  rw [TL.join_eq]
  have h : (Str.join e (cs.map sign)).cps.toList = TL.joinL e.cps.toList ((cs.map sign).map fun z => z.cps.toList) := TL.tl_join e (cs.map sign)
  rw [h, he]
  show TL.joinL [] _ = _
  rw [joinL_flat, List.map_map]
  clear h
  induction cs with
  | nil => rfl
  | cons c r ih =>
    rw [List.map_cons, List.flatten_cons, ih]
    rfl
theorem nodup_le : ∀ {l ts : List Str}, l.Nodup → (∀ x ∈ l, x ∈ ts) → l.length ≤ ts.length
  | [], _, _, _ => Nat.zero_le _
  | x :: l, ts, hn, hs => by
    have hx : x ∈ ts := hs x List.mem_cons_self
    have hn2 := List.nodup_cons.mp hn
    have ih := nodup_le (l := l) (ts := ts.erase x) hn2.2 fun y hy => by
      have ne : y ≠ x := fun e => hn2.1 (e ▸ hy)
      exact (List.mem_erase_of_ne ne).mpr (hs y (List.mem_cons_of_mem _ hy))
    rw [List.length_erase_of_mem hx] at ih
    have pos : 0 < ts.length := List.length_pos_of_mem hx
    simp only [List.length_cons]
    omega
def cand (w : Str) (c : Nat) : Str := cutS (sign c ++ w) none (some 8)
theorem tl_app (a b : Str) : (a ++ b).cps.toList = a.cps.toList ++ b.cps.toList := by
  rw [PySem.Str.cps_append, Array.toList_append]
theorem len_tl (a : Str) : a.length = a.cps.toList.length := by simp [Str.length]
theorem cand_tl (w : Str) (c : Nat) : (cand w c).cps.toList = (c :: w.cps.toList).take 8 := by
  unfold cand cutS
  have e : (sign c ++ w).cps.toList = c :: w.cps.toList := tl_app _ _
  have l : (sign c ++ w).length = w.cps.toList.length + 1 := by rw [len_tl, e]; rfl
  rw [e, l]
  have h8 : HT.sIx (w.cps.toList.length + 1) (w.cps.toList.length + 1) (some 8) = min 8 (w.cps.toList.length + 1) := HT.sIx_nat _ _ 8
  rw [h8]
  show (List.take (min 8 (w.cps.toList.length + 1) - 0) (List.drop 0 (c :: w.cps.toList))) = _
  rw [Nat.sub_zero, List.drop_zero]
  have : (c :: w.cps.toList).length = w.cps.toList.length + 1 := rfl
  rw [← this, ← List.take_eq_take_min]
theorem cand_word {w : Str} {c : Nat} (h : IsWord w) (hc : c ∈ abc) : IsWord (cand w c) := by
  have e := cand_tl w c
  obtain ⟨h1, h2, h3⟩ := h
  rw [len_tl] at h1 h2
  refine ⟨?_, ?_, fun d hd => ?_⟩
  · rw [len_tl, e]; simp
  · rw [len_tl, e]; simp; omega
  · rw [e] at hd
    rcases List.mem_cons.mp (List.mem_of_mem_take hd) with q | q
    · rw [q]; exact abc_le hc
    · exact h3 d q
theorem cand_inj {w : Str} {c d : Nat} (h : cand w c = cand w d) : c = d := by
  have e : (cand w c).cps.toList = (cand w d).cps.toList := by rw [h]
  rw [cand_tl, cand_tl] at e
  simpa using e
theorem free_some (w : Str) (ts : List Str) (h : ts.length ≤ 25) : abc.filter (fun c => !decide (cand w c ∈ ts)) ≠ [] := by
  intro e
  have ha : ∀ c ∈ abc, cand w c ∈ ts := fun c hc => by
    have := List.filter_eq_nil_iff.mp e c hc
    simpa using this
  have nd : (abc.map (cand w)).Nodup := by
    have h0 : abc.Nodup := by decide
    exact List.Pairwise.map _ (fun a b ne q => ne (cand_inj q)) h0
  have l := nodup_le nd (ts := ts) (fun x hx => by
    obtain ⟨c, hc, rfl⟩ := List.mem_map.mp hx
    exact ha c hc)
  rw [List.length_map] at l
  have : abc.length = 26 := rfl
  omega
theorem inV_str (w : Str) (ts : List Str) : inV (.str w) (ts.map V.str) = decide (w ∈ ts) := by
  unfold inV
  rw [List.any_map]
  apply Bool.eq_iff_iff.mpr
  simp only [List.any_eq_true, Function.comp, decide_eq_true_eq]
  constructor
  · rintro ⟨y, hy, e⟩
    have e2 : (y == w) = true := e
    exact (eq_of_beq e2) ▸ hy
  · intro h
    exact ⟨w, h, beq_self_eq_true w⟩
theorem flat_strs (ts : List Str) : (ts.map V.str).all flatV = true := by
  rw [List.all_map]
  exact List.all_eq_true.mpr fun _ _ => rfl
abbrev nWord : List Str := ["source", "taken", "letters", "word", "free", "turn", "letter"]
def spWord (K : PySem.W.Frag) : Sp := fun vs H Q _ => ∃ (a b : Addr) (n : Nat) (ts : List Str), vs = [.ref a, .ref b] ∧ Src H a n ∧ n ≤ 900000000 ∧ b ≠ a ∧ SqL K H b (ts.map V.str) ∧ ts.length ≤ 25 ∧
  ∀ H' w, Keep a H H' → Src H' a (n + 10) → IsWord w → w ∉ ts → Q (.str w) H'
section
variable {P : Program} {w : World} {K : PySem.W.Frag} {mg : Str → Option Value} {base : Heap}
theorem str_notmem {z : Str} {ts : List Str} {A B : Prop} (h1 : z ∉ ts → A) (h2 : z ∈ ts → B) : if (if true = true then !inV (.str z) (ts.map V.str) else inV (.str z) (ts.map V.str)) = true then A else B := by
  rw [if_pos rfl, inV_str]
  by_cases h : z ∈ ts
  · rw [decide_eq_true h, Bool.not_true, if_neg Bool.false_ne_true]; exact h2 h
  · rw [decide_eq_false h, Bool.not_false, if_pos rfl]; exact h1 h
theorem letters_cps : letters.cps = abc.toArray := by rw [letters_eq]
theorem abc_at {i : Int} (h0 : 0 ≤ i) (h1 : i < 26) : ∃ c, atI letters.cps.toList i = some c ∧ c ∈ abc := by
  rw [letters_cps]
  exact atI_get (xs := abc) h0 (by show i < 26; exact h1)
end
/-! isinstance of a caught error that has its own dict -/
def rIsED (K : PySem.W.Frag) (cls : Value) (d : Option Addr) (a : Addr) : List V → Hp → VK → Prop := fun xs H Q =>
  ∃ (D dd : Addr) (c : V) (cv : Value) (b : Bool) (fs : List (Str × V)), cls = .ref D ∧ d = some dd ∧ ExcC K D ∧ xs = [.ref a, c] ∧ (∀ u, RelV c u → u = cv) ∧ H dd = some (.xd fs) ∧ PySem.W.kitOne K (.ref D) cv = some b ∧ Q (.bl b) H
theorem call_isED {X : Cx} {a : Addr} {cls : Value} {d : Option Addr} {oe : Obj} {pn : List (Addr × Obj)} (hz : Zc cls d oe) (hf : ∃ vs, oe.data = .fields vs) :
    CallR (X.suite a ((a, oe) :: pn)) (.builtin "isinstance") (rIsED X.K cls d a) := by
  intro pins s σ H xs us Q I r h
  obtain ⟨D, dd, c, cv, b, fs, rfl, rfl, C, rfl, hcv, hdd, e, q⟩ := h
  obtain ⟨u1, u2, rfl, r1, r2⟩ := vals2 r
  obtain rfl : u1 = Value.ref a := r1
  obtain rfl := hcv _ r2
  have hp := (I.pin (a, oe) (List.mem_append_left _ List.mem_cons_self)).1
  obtain ⟨mA, hns, _⟩ := (show ObjOk X.prog X.w H s.heap dd (.xd fs) from I.hok dd _ hdd)
  obtain ⟨od, ho, _⟩ := lookIn_ns hns
  obtain ⟨vs, hv⟩ := hf
  have J : PySem.W.InstAt s.heap a oe D (some od) := ⟨hp, hz.1, by unfold PySem.W.notCls; rw [hv] <;> rfl, by rw [hz.2]; exact ho⟩
  have hc : (PySem.W.clsIn X.K D).isSome = true := by
    have z := C.hd
    unfold PySem.W.hasDictIn at z
    cases q : PySem.W.clsIn X.K D with
    | none => rw [q] at z; cases z
    | some y => rfl
  exact PySem.W.kia_one (PySem.W.kitx_exc hc C.hg C.hk C.hs C.ha C.hn C.ht C.hm) I.kIn J e (fun z => nomatch z) fun tk => ⟨.bl b, H, I.tok tk, rfl, q⟩
/-! f(k = v, ..), nothing by position, what it raises wished for at the caller's slots -/
def tCallKS (m : Nat) (sp : Sp) (gV : List V → List V → List V) (E : L2.St → XK) (tk : TA) : TE := fun σ H Q => tk σ H fun zs H2 => zs.length = m ∧ sp (gV [] zs) H2 Q (E σ)
section
variable {X : Cx} {CX : CXT} {k : Nat} {f : Addr} {fd : FuncData} {ps ks : List Str} {sp : Sp} {E : L2.St → XK} {x : Str} {p pos : Pos} {kws : List Keyword} {tk : TA} {g : List Value → List Value → List Value} {gV : List V → List V → List V}
theorem pe_callKS (F : FnOk X.prog X.w X.K X.mg X.base CX k f fd ps sp) (hr : Room k X.A) (hm : X.mg x = some (.ref f)) (hk : PySem.W.keepIn X.K (.ref f) = true) (hb : KBn X.K fd ps 0 ks g gV) (hx : ∀ σ, PassesAt CX X σ (E σ)) (hkw : PK X kws tk)
    (hg : Gl X x := by rfl) (hall : (backToKw pos (keywordEach kws X.env)).all (·.1.isSome) = true := by rfl) (hks : (backToKw pos (keywordEach kws X.env)).filterMap (·.1) = ks := by rfl) (hdb : (x == ("__debug__" : Str)) = false := by decide)
    (hpl : ((backTo pos (starEach [] X.env)).any (·.1) || (backToKw pos (keywordEach kws X.env)).any (·.1.isNone)) = false := by rfl) :
    PE X (.Call (.Name x p) [] kws pos) (tCallKS ks.length sp gV E tk) := by
  refine ⟨fun pins s σ H Q I h => wpAny_Call_Name_kw (ld_glob I hg hm ?_ hdb)⟩
  refine PySem.W.callWith_KW0 (h₀ := X.base) I.ok.mod.kin hk hall (thn (hkw.run pos pins s σ H _ I h) fun ws s2 ⟨zs, H2, I2, rz, l2, q2⟩ => ⟨I2.kIn, ?_⟩) hpl
  rw [hks]
  have r2 := hb.rel .nil rz
  have bt := hb.to s2 [] ws I2.kIn rfl (rz.length.symm.trans l2)
  refine wpAny_call (codeAny_mono (F.run X.A X.stack s2 H2 ⟨[], ks.zip ws⟩ (g [] ws) (gV [] zs) Q (E σ) hr I2.env0 bt r2 q2) fun r s' hq => ?_)
  match r, hq with
  | .error e, hq => exact hx σ pins H2 s2 e s' I2 hq
  | .ok (.ret u), hq => exact I2.after hq
  | .ok .next, hq => exact hq.elim
  | .ok .brk, hq => exact hq.elim
  | .ok .cont, hq => exact hq.elim
end
structure TxtP (mg : Str → Option Value) : Prop where
  isi : mg "isinstance" = none
  int : mg "int" = none
  bool : mg "bool" = none
  str : mg "str" = none
  list : mg "list" = none
  tuple : mg "tuple" = none
  dict : mg "dict" = none
  len : mg "len" = none
  all : mg "all" = none
  longest : ∃ t, mg "LONGEST_WORD" = some (.int 8 t)
/-- a value of a built-in type t -/
def IsTy (K : PySem.W.Frag) (H : Hp) (v : V) (t : String) : Prop := TyX K H v (.type t)
def NotTy (K : PySem.W.Frag) (H : Hp) (v : V) (c : String) : Prop := ∃ t, TyX K H v (.type t) ∧ kitB t c = some false
def isWordB (z : Str) : Bool := decide (1 ≤ z.length) && (decide (z.length ≤ 8) && z.cps.toList.all fun c => decide (97 ≤ c) && decide (c ≤ 122))
theorem isWordB_iff (z : Str) : isWordB z = true ↔ IsWord z := by
  unfold isWordB IsWord
  simp only [Bool.and_eq_true, decide_eq_true_eq, List.all_eq_true]
theorem isWordB_true {z : Str} (h : IsWord z) : isWordB z = true := (isWordB_iff z).mpr h
theorem isWordB_false {z : Str} (h : ¬ IsWord z) : isWordB z = false := by
  cases e : isWordB z with
  | false => rfl
  | true => exact absurd ((isWordB_iff z).mp e) h
def spIsInteger (K : PySem.W.Frag) : Sp := fun vs H Q _ => ∃ (v : V) (b : Bool), vs = [v] ∧
  ((b = true ∧ ∃ i, v = .int i) ∨ (b = false ∧ ((∃ c, v = .bl c) ∨ NotTy K H v "int"))) ∧ Q (.bl b) H
def spIsWord (K : PySem.W.Frag) : Sp := fun vs H Q _ => ∃ (v : V) (b : Bool), vs = [v] ∧
  ((∃ z, v = .str z ∧ z.length ≤ 1000 ∧ b = isWordB z) ∨ (b = false ∧ NotTy K H v "str")) ∧ ∀ H', Same H H' → Q (.bl b) H'
def spCopied (K : PySem.W.Frag) : Sp := fun vs H Q _ => ∃ (v : V), vs = [v] ∧ NotTy K H v "list" ∧ NotTy K H v "tuple" ∧ NotTy K H v "dict" ∧ Q v H
section
variable {P : Program} {w : World} {K : PySem.W.Frag} {mg : Str → Option Value} {base : Heap}
theorem ty_int {H : Hp} (i : Int) : TyX K H (.int i) (.type "int") := .base (.int i)
theorem ty_bl {H : Hp} (i : Bool) : TyX K H (.bl i) (.type "bool") := .base (.bl i)
theorem ty_str {H : Hp} (i : Str) : TyX K H (.str i) (.type "str") := .base (.str i)
theorem ty_non {H : Hp} : TyX K H .non (.type "NoneType") := .base .non
theorem lt_sign (c d : Nat) : decide (([c] : List Nat) < [d]) = decide (c < d) := by
  have : (([c] : List Nat) < [d]) ↔ c < d := by
    rw [List.cons_lt_cons_iff]
    simp
  simp only [this]
end
theorem exc_end {H : Hp} {a C d : Addr} {fs : List (Str × V)} (na : H a = none) (nd : upd H a (exo a C none) d = none) (da : d ≠ a) :
    H d = none ∧ Same H (upd (del (upd (upd (upd H a (exo a C none)) d (exd d fs)) a (exo a C (some d))) a) d (.xd fs)) := by
  have n2 : H d = none := by rw [upd_ne da] at nd; exact nd
  refine ⟨n2, fun b o h => ?_⟩
  rw [upd_ne (ne_of_none h n2), del_ne (ne_of_none h na), upd_ne (ne_of_none h na), upd_ne (ne_of_none h n2), upd_ne (ne_of_none h na)]
  exact h
theorem Same.new {H H1 : Hp} {p : Addr} {o : HO} (s : Same H H1) (h : H1 p = none) : Same H (upd H1 p o) := fun b u e => by
  rw [upd_ne (ne_of_none (s b u e) h)]
  exact s b u e
section
variable {P : Program} {w : World} {K : PySem.W.Frag} {mg : Str → Option Value} {base : Heap}
theorem nt_str {H : Hp} (z : Str) : NotTy K H (.str z) "list" ∧ NotTy K H (.str z) "tuple" ∧ NotTy K H (.str z) "dict" :=
  ⟨⟨_, ty_str z, by decide +kernel⟩, ⟨_, ty_str z, by decide +kernel⟩, ⟨_, ty_str z, by decide +kernel⟩⟩
theorem NotTy.same {H H1 : Hp} {v : V} {c : String} (s : Same H H1) (h : NotTy K H v c) : NotTy K H1 v c := by
  obtain ⟨t, ht, k⟩ := h
  refine ⟨t, ?_, k⟩
  cases ht with
  | base b => cases b with
    | non => exact .base .non
    | bl y => exact .base (.bl y)
    | int i => exact .base (.int i)
    | str y => exact .base (.str y)
    | flt y => exact .base (.flt y)
    | lst e => exact .base (.lst (s _ _ e))
    | frz e => exact .base (.frz (s _ _ e))
    | tup e => exact .base (.tup (s _ _ e))
    | dK e => exact .base (.dK (s _ _ e))
    | dT e => exact .base (.dT (s _ _ e))
  | byt b => exact .byt b
  | set e => exact .set (s _ _ e)
  | kList e c => exact .kList e c
  | kTuple e c => exact .kTuple e c
  | kDict e c => exact .kDict e c
  | fTuple e => exact .fTuple (s _ _ e)
  | fDict e => exact .fDict (s _ _ e)
theorem not_nt_str {H : Hp} {z : Str} (h : NotTy K H (.str z) "str") : False := by
  obtain ⟨t, ht, k⟩ := h
  generalize hv : V.str z = v at ht
  generalize hu : Value.type t = u at ht
  cases ht with
  | base b =>
    cases b with
    | str y =>
      cases hu
      exact absurd k (by decide +kernel)
    | _ => cases hv
  | _ => cases hv
end
def oddStrs : List Str := ["", "abcdefghi", "A", "aB", "a1", "a b", " a", "a_", "-"]
inductive Odd (a : Addr) (H : Hp) : V → Prop where
  | str {z : Str} (h : z ∈ oddStrs) : Odd a H (.str z)
  | non : Odd a H .non
  | int (i : Int) : Odd a H (.int i)
  | bl (b : Bool) : Odd a H (.bl b)
  | tup {p : Addr} {xs : List V} (n : p ≠ a) (h : H p = some (.tup xs)) (e : xs = [] ∨ xs = [.str "a"]) : Odd a H (.ref p)
  | lst {p : Addr} {xs : List V} (n : p ≠ a) (h : H p = some (.lst xs)) (e : xs = [] ∨ xs = [.str "a"]) : Odd a H (.ref p)
  | dic {p : Addr} (n : p ≠ a) (h : H p = some (.dK [(.inr "a", .str "b")])) : Odd a H (.ref p)
theorem Odd.keep {a : Addr} {H H' : Hp} {v : V} (k : Keep a H H') (h : Odd a H v) : Odd a H' v := by
  cases h with
  | str h => exact .str h
  | non => exact .non
  | int i => exact .int i
  | bl b => exact .bl b
  | tup n h e => exact .tup n (k _ _ n h) e
  | lst n h e => exact .lst n (k _ _ n h) e
  | dic n h => exact .dic n (k _ _ n h)
theorem odd_notword {K : PySem.W.Frag} {a : Addr} {H : Hp} {v : V} (h : Odd a H v) : (∃ z, v = .str z ∧ z.length ≤ 1000 ∧ ¬ IsWord z) ∨ NotTy K H v "str" := by
  cases h with
  | @str z h =>
    have e : ∀ z ∈ oddStrs, (decide (z.length ≤ 1000) && !isWordB z) = true := by decide +kernel
    have e2 := e z h
    simp only [Bool.and_eq_true, decide_eq_true_eq, Bool.not_eq_true'] at e2
    exact .inl ⟨z, rfl, e2.1, fun hw => by rw [isWordB_true hw] at e2; cases e2.2⟩
  | non => exact .inr ⟨_, ty_non, by decide +kernel⟩
  | int i => exact .inr ⟨_, ty_int i, by decide +kernel⟩
  | bl b => exact .inr ⟨_, ty_bl b, by decide +kernel⟩
  | tup n h e => exact .inr ⟨_, .base (.tup h), by decide +kernel⟩
  | lst n h e => exact .inr ⟨_, .base (.lst h), by decide +kernel⟩
  | dic n h => exact .inr ⟨_, .base (.dK h), by decide +kernel⟩
theorem same_new2 {H : Hp} {p : Addr} {o u : HO} (n : H p = none) : Same H (upd (upd H p o) p u) := fun b x h => by
  rw [upd_ne (ne_of_none h n), upd_ne (ne_of_none h n)]
  exact h
def spOdd : Sp := fun vs H Q _ => ∃ (a : Addr) (n : Nat), vs = [.ref a] ∧ Src H a n ∧ n ≤ 900000000 ∧ ∀ H' v, Keep a H H' → Src H' a (n + 1) → Odd a H' v → Q v H'
theorem Src.same {H H1 : Hp} {a : Addr} {n : Nat} (s : Same H H1) (h : Src H a n) : Src H1 a n := by
  obtain ⟨d, x, t, h1, h2⟩ := h
  exact ⟨d, x, t, s _ _ h1, h2⟩
section
variable {P : Program} {w : World} {K : PySem.W.Frag} {mg : Str → Option Value} {base : Heap}
end
theorem kb_of {K : PySem.W.Frag} {x qual : Str} {params : Arguments} {body : List Stmt} {scope : Scope} {kws : List (Str × V)} {f : Addr} {fd : FuncData} {ps : List Str} (F : FunD K x qual params body scope [] kws f fd)
    (h : ∀ (kV doc pm : Value) (an : Option Addr) (cdv ct : Value) (ws : List Value), ws.length = ps.length → bindArgs (PySem.W.fnOf x qual params body scope .none kV doc pm an cdv ct) ⟨[], ps.zip ws⟩ = pure (ps.zip ws)) : KBn K fd ps 0 ps (fun _ ws => ws) (fun _ zs => zs) := by
  obtain ⟨oc, od, dV, kV, doc, pm, an, cdv, ct, osl, rfl, lk, hcd, hD, hK⟩ := F.ex
  rcases hD with ⟨_, rfl⟩ | ⟨e, _⟩
  · exact ⟨fun s us ws _ l1 l2 => by
      obtain rfl : us = [] := List.length_eq_zero_iff.mp l1
      exact .of_eq (h kV doc pm an cdv ct ws l2), fun _ r => r⟩
  · exact absurd rfl e
end Lw
namespace Hk
open PySem PySem.Spec PyProof.Rows L2
/-! a Hook: facts, defs, tables, one Bool more -/
abbrev Al : Type := He.AlT × Bool
def obG (n : Nat) (fa : List He.Fa) (fn : List He.DefD) (ts : List He.Tab) (own : PySem.W.Frag → Bool) (g : Addr → Option Obj) : Al := (He.obsTG n fa fn ts g, own (He.frG g (He.asD g n)))
def Says (fa : List He.Fa) (fn : List He.DefD) (ts : List He.Tab) (own : PySem.W.Frag → Bool) (w : World) (K : PySem.W.Frag) : Prop := He.SaysT fa fn ts w K ∧ own K = true
def hook (n : Nat) (fa : List He.Fa) (fn : List He.DefD) (ts : List He.Tab) (own : PySem.W.Frag → Bool) : PySem.W.Hook where
  α := Al
  obs := fun s => obG n fa fn ts own s.heap.get?
  val := fun w => (He.valT fn ts w, true)
  says := fun w h => ∃ K : PySem.W.Frag, K.In h ∧ Says fa fn ts own w K
  of := fun _ _ e => ⟨_, He.frG_in, congrArg Prod.fst e, congrArg Prod.snd e⟩
  keeps := fun _ _ _ ⟨K, hK, c⟩ k => ⟨K, PySem.W.Frag.In.keeps hK k, c⟩
theorem obG_eq {n : Nat} {fa : List He.Fa} {fn : List He.DefD} {ts : List He.Tab} {own : PySem.W.Frag → Bool} {g : Addr → Option Obj} {s : Shared} (h : ∀ a, g a = s.heap.get? a) : obG n fa fn ts own g = (hook n fa fn ts own).obs s := by
  rw [show g = s.heap.get? from funext h] <;> rfl
/-- an own error class over ValueError with an own __init__ -/
def oexB (K : PySem.W.Frag) (C : Addr) : Bool := match K.lookup C with
  | some ⟨.type t, _, .cls ⟨_, _, .ref c :: bm, _, _, true, _, _, _, _, false⟩, sl⟩ => (decide (t = "type") && (decide (c = C) && PySem.HandSPX.refsVE bm)) && (match sl.toList with
    | [_, _, _, _, some (.builtin z), _] => decide (z = "ValueError.__new__")
    | _ => false)
  | _ => false
def clsB (K : PySem.W.Frag) (C : Addr) : Bool := oexB K C && (He.eqO (PySem.W.findIn K (.ref C) "__setattr__") (some (some (.builtin "object.__setattr__"))) && (decide (PySem.W.subIn K (.ref C) (.type "BaseException") = some true) &&
  (decide (PySem.W.typeIn K (.ref C) = some (.type "type")) && PySem.W.keepIn K (.ref C))))
theorem oexB_ok {K : PySem.W.Frag} {C : Addr} (h : clsB K C = true) : OexC K C := by
  obtain ⟨h1, h⟩ := He.ba h
  obtain ⟨h2, h⟩ := He.ba h
  obtain ⟨h3, h⟩ := He.ba h
  obtain ⟨h4, h5⟩ := He.ba h
  refine ⟨?_, He.eqO_ok h2, of_decide_eq_true h3, of_decide_eq_true h4, h5⟩
  unfold oexB at h1
  split at h1
  · rename_i t dd nm bs c bm N qn sn sub ab col sl e
    obtain ⟨q1, q2⟩ := He.ba h1
    obtain ⟨q3, q4⟩ := He.ba q1
    obtain ⟨q5, q6⟩ := He.ba q4
    have e1 := of_decide_eq_true q3
    have e2 := of_decide_eq_true q5
    subst e1 e2
    split at q2
    · rename_i k0 k1 k2 k3 z k5 es
      have e3 := of_decide_eq_true q2
      subst e3
      obtain ⟨sl⟩ := sl
      simp only at es
      subst es
      exact ⟨nm, qn, N, bs, bm, sn, sub, ab, col, dd, k0, k1, k2, k3, k5, e, q6⟩
    · cases q2
  · cases h1
/-- isinstance asks its instances rightly -/
def excB (K : PySem.W.Frag) (D : Addr) : Bool := L2.xfB K D && (He.eqO (PySem.W.findIn K (.ref D) "__class__") (some (some (.builtin "object.__class__"))) && (decide (PySem.W.mroIn K D (.type "object") = some true) && getB K))
where getB (K : PySem.W.Frag) : Bool := decide (PySem.W.specialIn K (.builtin "object.__class__") "__get__" = some (some (.builtin "getset_descriptor.__get__"))) && decide (PySem.W.takesIn K (.builtin "object.__class__") = some true)
theorem excB_ok {K : PySem.W.Frag} {D : Addr} (h : excB K D = true) : ExcC K D ∧ XfC K D := by
  obtain ⟨h1, h⟩ := He.ba h
  obtain ⟨h2, h⟩ := He.ba h
  obtain ⟨h3, h⟩ := He.ba h
  obtain ⟨h4, h5⟩ := He.ba h
  have x := L2.xfB_ok h1
  exact ⟨⟨x.ga, x.gg, x.exC, x.hdC, He.eqO_ok h2, of_decide_eq_true h4, of_decide_eq_true h5, of_decide_eq_true h3⟩, x⟩
/-- isinstance of an own class's instances -/
def insB (K : PySem.W.Frag) (D : Addr) : Bool := He.eqO (PySem.W.findIn K (.ref D) "__class__") (some (some (.builtin "object.__class__"))) && (decide (PySem.W.mroIn K D (.type "object") = some true) && excB.getB K)
end Hk

set_option Elab.async false
set_option linter.all false
set_option maxRecDepth 100000
set_option maxHeartbeats 4000000
namespace Lw
open PySem PySem.Spec PyProof.Rows L2
/-! an own error with an own __init__, made: its context is None -/
section
variable {X : Cx} {CX : CXT} {x : Str} {e : Expr} {es : List Expr} {ta : TA} {p pos : Pos} {C fI : Addr} {k : Nat} {fd : FuncData} {ps : List Str} {sp : Sp} {ds : List Value} {dvs : List V}
theorem pmk_oexN (T : OexC X.K C) (iC : PySem.W.findIn X.K (.ref C) "__init__" = some (some (.ref fI))) (tI : PySem.W.typeIn X.K (.ref fI) = some (.type "function")) (F1 : FnOk X.prog X.w X.K X.mg X.base CX k fI fd ps sp) (hr : Room (k + 1) X.A) (hb : Binds X.K fd ps ds)
    (hd : Vals dvs ds) (hx : Passes CX X (fun _ _ _ => False)) (hm : X.mg x = some (.ref C)) (ha : PA X (e :: es) ta) (hg : Gl X x := by rfl) (hdb : (x == ("__debug__" : Str)) = false := by decide) (he : starEach (e :: es) X.env = (false, eval e X.env) :: starEach es X.env := by rfl)
    (hpl : (backTo pos (starEach es X.env)).any (·.1) = false := by rfl) : L2N.PMk X (.Call (.Name x p) (e :: es) [] pos) (tMkO C sp dvs ta) := fun pins s σ H Q I h => by
  obtain ⟨nm, qn, N, bs, bm, sn, sub, ab, col, dd, k0, k1, k2, k3, k5, hC, hbm⟩ := T.cls
  refine wpAny_Call_Name_kw (ld_glob I hg hm (PySem.W.callWith_K (h₀ := X.base) I.ok.mod.kin T.kC (thn (ha.run pos pins s σ H _ I h) fun us st ⟨vs, H1, J, rv, hz, q1⟩ => ⟨J.kIn, ?_⟩) he hpl) hdb)
  show wpAny _ _ (call (.ref C) us) _ _ _
  obtain ⟨hp, g, dr, tk, os⟩ := st
  have up : hp.objs.size ≤ hp.objs.size + 1 := by omega
  have spec := q1 (hp.objs.size + 1) (J.hok.fresh up)
  have stay : ∀ b o, hp.get? b = some o → ((hp.push (PySem.W.kdv_tup us)).push (PySem.HandSPX.excO C hp.objs.size)).get? b = some o := fun b o z => Heap.get?_push_of_some _ (Heap.get?_push_of_some _ z)
  have there : ((hp.push (PySem.W.kdv_tup us)).push (PySem.HandSPX.excO C hp.objs.size)).get? (hp.objs.size + 1) = some (PySem.HandSPX.excO C hp.objs.size) := by heap_get
  have J2 := J.laid (t' := tk) (a := hp.objs.size + 1) (o := exo (hp.objs.size + 1) C none) (h' := (hp.push (PySem.W.kdv_tup us)).push (PySem.HandSPX.excO C hp.objs.size)) stay up (exo_ok there)
  have rel : Vals (V.ref (hp.objs.size + 1) :: (vs ++ dvs)) (Value.ref (hp.objs.size + 1) :: (us ++ ds)) := .cons rfl (rv.append hd)
  have len : (Value.ref (hp.objs.size + 1) :: us ++ ds).length = ps.length := (F1.len _ _ _ _ spec ▸ rel.length).symm
  have line : us.length ≤ sizeLine := by rw [← Paired.length rv, sizeLine_eq]; omega
  refine wpAny_call (PySem.HandSPX.call_own F.excBase_ValueError (fun Y => PySem.HandSPX.refsVE_contains Y bm hbm) (J.kIn _ _ hC) (PySem.W.looks_findIn J.kIn iC) (fun self => PySem.W.bind_fn J.kIn self tI) line
    (codeAny_mono (F1.run _ X.stack _ _ ⟨Value.ref (hp.objs.size + 1) :: us, []⟩ (Value.ref (hp.objs.size + 1) :: (us ++ ds)) _ _ (fun _ _ _ => False) (hr.make C us []) (J2.env0.make C us []) (hb _ (Value.ref (hp.objs.size + 1) :: us) J2.kIn len) rel spec) fun r s' back => ?_))
  match r, back with
  | .error er, back => exact hx pins σ _ _ er s' J2 back
  | .ok .next, back => exact back.elim
  | .ok .brk, back => exact back.elim
  | .ok .cont, back => exact back.elim
  | .ok (.ret u), back =>
    obtain ⟨v, H2, os2, bare2, un2, hok2, rv2, ev, d, fs, ea, ed, hd1, q2⟩ := back
    subst ev
    obtain ⟨h2, g2, d2, t2, os'⟩ := s'
    obtain ⟨t0, G, JG, kG, ge, hoe, na⟩ := mk_end0 (d2 := d2) (t2 := t2) J up stay un2 hok2 os2 bare2 ea ed hd1
    exact ⟨rv2, _, _, _, ⟨G, g2, d2, t2, os'⟩, _, .ref C, some d, rfl, JG, kG, ge, hoe, ⟨rfl, rfl, fun z ez => by cases ez; rfl⟩, rfl, rfl, na, rfl, bare2, raises_own T.exC T.tyC, q2⟩
/-! C(e, ..), C what a local name holds -/
def tMakeL (i : Nat) (C : Addr) (sp : Sp) (E : XK) (t : TA) : TE := fun σ H Q => σ[i]? = some (some (.ref C)) ∧ tMake C sp [] E t σ H Q
theorem pe_makeL {E : XK} {t : TA} {i f : Nat} (M : Mk X.K C f) (F : FnOk X.prog X.w X.K X.mg X.base CX k f fd ps sp) (hr : Room (k + 1) X.A) (hN : X.N[i]? = some x) (hv : Vis X.env.scope x) (hb : Binds X.K fd ps []) (hx : Passes CX X E) (ha : PA X (e :: es) t)
    (hdb : (x == ("__debug__" : Str)) = false := by decide) (hcd : (x == ("__classdict__" : Str)) = false := by decide) (he : starEach (e :: es) X.env = (false, eval e X.env) :: starEach es X.env := by rfl) (hpl : (backTo pos (starEach es X.env)).any (·.1) = false := by rfl) :
    PE X (.Call (.Name x p) (e :: es) [] pos) (tMakeL i C sp E t) := ⟨fun pins s σ H Q I ⟨hs, ht⟩ => by
  refine wpAny_Call_Name_kw (thn ((pe_var (pos := p) hN hv hdb hcd).run pins s σ H (fun v H1 => v = .ref C ∧ H1 = H) I ⟨.ref C, hs, rfl, rfl⟩) fun u s1 ⟨v, H1, J, r1, e1, e2⟩ => ?_)
  subst e1 e2
  obtain rfl : u = Value.ref C := r1
  exact PySem.W.callWith_K (h₀ := X.base) J.ok.mod.kin M.kp (thn (ha.run pos pins s1 σ H1 _ J ht) fun us s2 ⟨vs, H2, J2, r, q⟩ => ⟨J2.kIn, run_make M F hr hb .nil hx J2 r q⟩) he hpl⟩
/-! what a try's body lets out, whatever its slots are -/
def WL (X : Cx) (W : WX) : XK := fun cls d H => ∀ σ : L2.St, σ.length = X.N.length → W cls d σ H
theorem passL {W : WX} (tk : L2N.Takes X W) : Passes (L2N.CX X.prog X.w) X (WL X W) := fun pins σ H s u s' I c => by
  obtain ⟨a, B, H', cls, d, hu, fl, hok, ub, na, os, ag, hE⟩ := c
  exact tk u s' (L2N.XE.of_call (W := W) (E := fun c d H => W c d σ H) I (fun _ _ _ z => z) ⟨a, B, H', cls, d, hu, fl, hok, ub, na, os, ag, hE σ I.len⟩)
end
/-! a def called while an error is handled -/
theorem okH {CX : CXT} {P : Program} {w : World} {K : PySem.W.Frag} {mg : Str → Option Value} {base : Heap} {k : Nat} {x qual : Str} {params : Arguments} {bd : List Stmt} {scope : Scope} {dvs : List V} {kws : List (Str × V)} {f : Addr} {fd : FuncData} {N ps : List Str} {sp : Sp}
    (F : FunD K x qual params bd scope dvs kws f fd) (S : FnScope N ps scope) (len : ∀ vs H Q E, sp vs H Q E → vs.length = ps.length)
    (hb : ∀ (cdv : Value) (A : Around) (outer : List Env) (s : Shared) (H : Hp) (vs : List V) (Q : VK) (E : XK) (p : Addr × Obj), L2H.Hot1 A p → L2H.RoomH k (A.deeper (envOfC qual scope s.heap.objs.size f cdv)) → sp vs H Q E →
      ∃ t, PSs (L2H.cxH CX P w K mg base N qual scope f cdv A outer s H E p) bd t ∧ t { nx := fun _ H' => Q .non H', rt := Q } (start N vs) H) : L2H.FnH P w K mg base CX (k + 1) f fd ps sp := by
  obtain ⟨oc, od, dV, kV, doc, pm, an, cdv, ct, osl, rfl, lk, hcd, _, _⟩ := F.ex
  exact L2H.fn_ofH lk hcd S len fun A outer s H vs Q E p h1 h2 h3 => hb cdv A outer s H vs Q E p h1 h2 h3
end Lw

set_option Elab.async false
set_option linter.all false
set_option maxRecDepth 100000
set_option maxHeartbeats 4000000
namespace Lw
open PySem PySem.Spec PyProof.Rows L2
/-! the draws of the later laws: also out of very many -/
def spDrawW : Sp := fun vs H Q _ => ∃ (a : Addr) (n : Nat) (m : Int), vs = [.ref a, .int m] ∧ Src H a n ∧ n ≤ 1000000000 ∧ 0 < m ∧ m.natAbs < 2 ^ 200 ∧
  ∀ H' i, Keep a H H' → Src H' a (n + 1) → 0 ≤ i → i < m → Q (.int i) H'
theorem small_m {m : Int} (h : -1000000000000000000000 < m ∧ m < 1000000000000000000000) : m.natAbs < 2 ^ 200 := by omega
/-! a tuple that the module holds -/
def tupB (K : PySem.W.Frag) (a : Addr) (xs : List V) : Bool := match K.lookup a with
  | some ⟨.type t, _, .seq its _, _⟩ => decide (t = "tuple") && (decide (its.size ≤ 1000) && decide (its.toList.map absV = xs.map some))
  | _ => false
theorem rel_of_abs {x : V} {u : Value} (h : absV u = some x) : RelV x u := by
  unfold absV at h
  split at h <;> first | cases h | skip
  all_goals first | rfl | exact ⟨_, rfl⟩
theorem vals_of_abs : ∀ {us : List Value} {xs : List V}, us.map absV = xs.map some → Vals xs us
  | [], [], _ => .nil
  | u :: us, x :: xs, h => by
    simp only [List.map_cons, List.cons.injEq] at h
    exact .cons (rel_of_abs h.1) (vals_of_abs h.2)
  | [], _ :: _, h => by cases h
  | _ :: _, [], h => by cases h
theorem tupB_ok {K : PySem.W.Frag} {a : Addr} {xs : List V} {H : Hp} (h : tupB K a xs = true) : SqT K H a xs := by
  unfold tupB at h
  split at h
  · rename_i t d its n sl e
    obtain ⟨h1, h2⟩ := He.ba h
    obtain ⟨h3, h4⟩ := He.ba h2
    have e1 := of_decide_eq_true h1
    have e2 := of_decide_eq_true h3
    have hs : sizeLine = 16777216 := by decide
    subst e1
    exact .inr ⟨_, its, n, e, rfl, rfl, by omega, vals_of_abs (of_decide_eq_true h4)⟩
  · cases h
end Lw
namespace Lw
open PySem PySem.Spec PyProof.Rows L2
theorem it_bf {b : Bool} {A B : Prop} (h : b = false) (x : B) : if b = true then A else B := by
  rw [h, if_neg Bool.false_ne_true]; exact x
theorem it_bt {b : Bool} {A B : Prop} (h : b = true) (x : A) : if b = true then A else B := by
  rw [h, if_pos rfl]; exact x
theorem str_mem {z : Str} {ts : List Str} {A B : Prop} (h1 : z ∈ ts → A) (h2 : z ∉ ts → B) : if inV (.str z) (ts.map V.str) = true then A else B := by
  rw [inV_str]
  by_cases h : z ∈ ts
  · rw [decide_eq_true h, if_pos rfl]; exact h1 h
  · rw [decide_eq_false h, if_neg Bool.false_ne_true]; exact h2 h
theorem kb_rel {K : PySem.W.Frag} {x qual : Str} {params : Arguments} {body : List Stmt} {scope : Scope} {kws : List (Str × V)} {f : Addr} {fd : FuncData} {ps ks : List Str} {g : List Value → List Value} {gV : List V → List V} (F : FunD K x qual params body scope [] kws f fd) (hr : ∀ {zs us}, Vals zs us → Vals (gV zs) (g us))
    (h : ∀ (kV doc pm : Value) (an : Option Addr) (cdv ct : Value) (ws : List Value), ws.length = ks.length → bindArgs (PySem.W.fnOf x qual params body scope .none kV doc pm an cdv ct) ⟨[], ks.zip ws⟩ = pure (ps.zip (g ws))) : KBn K fd ps 0 ks (fun _ ws => g ws) (fun _ zs => gV zs) := by
  obtain ⟨oc, od, dV, kV, doc, pm, an, cdv, ct, osl, rfl, lk, hcd, hD, hK⟩ := F.ex
  rcases hD with ⟨_, rfl⟩ | ⟨e, _⟩
  · exact ⟨fun s us ws _ l1 l2 => by
      obtain rfl : us = [] := List.length_eq_zero_iff.mp l1
      exact .of_eq (h kV doc pm an cdv ct ws l2), fun _ r => hr r⟩
  · exact absurd rfl e
theorem pass0S {X : Cx} : ∀ σ : L2.St, PassesAt CX0 X σ ((fun _ => E0 : L2.St → XK) σ) := fun _ _ _ _ _ _ _ h => h.elim
theorem same_at {H G : Hp} {D : Addr} {o : HO} (n : H D = none) (s : Same H G) : Same H (upd G D o) := fun b u h => by
  rw [upd_ne (ne_of_none h n)]
  exact s b u h
theorem g_name {i : Nat} {v : V} {σ : L2.St} {H : Hp} {Q : L2.St → Hp → Prop} (h : Q (σ.set i (some v)) H) : gName i v σ H Q := h
theorem vals_rev : ∀ {vs : List V} {us : List Value}, Vals vs us → Vals vs.reverse us.reverse
  | _, _, .nil => .nil
  | _, _, .cons h r => by
    rw [List.reverse_cons, List.reverse_cons]
    exact Vals.append (vals_rev r) (.cons h .nil)
end Lw
namespace Lw
open PySem PySem.Spec PyProof.Rows L2
theorem cutV_ints (ns : List Int) (lo hi : Option Int) : ∃ ms : List Int, cutV (ns.map V.int) lo hi = ms.map V.int ∧ ms.length ≤ ns.length := by
  unfold cutV
  refine ⟨(ns.drop (HT.sIx (ns.map V.int).length 0 lo)).take (HT.sIx (ns.map V.int).length (ns.map V.int).length hi - HT.sIx (ns.map V.int).length 0 lo), ?_, ?_⟩
  · rw [List.map_take, List.map_drop]
  · rw [List.length_take, List.length_drop]; omega
theorem none_of_same {H G : Hp} (s : Same H G) {q : Addr} (h : G q = none) : H q = none := by
  cases e : H q with
  | none => rfl
  | some o => rw [s _ _ e] at h; cases h
theorem keep_at {a : Addr} {H G : Hp} {D : Addr} {o : HO} (n : H D = none) (s : Keep a H G) : Keep a H (upd G D o) := fun b u nb h => by
  rw [upd_ne (ne_of_none h n)]
  exact s b u nb h
/-! words, several and different -/
def cand1 (w : Str) (c : Nat) : Str := sign c ++ cutS w (some 1) none
def WInv (z : Str) (ts : List Str) (j : Nat) (y : Str) : Prop := IsWord y ∧ IsWord z ∧ y.cps.toList.drop 1 = z.cps.toList.drop 1 ∧ (y ∉ ts ∨ ∀ i c, i + 1 < j → abc[i]? = some c → cand1 z c ∈ ts) ∧ (y ∉ ts ∨ j = 0 ∨ ∃ c, abc[j - 1]? = some c ∧ y = cand1 z c)
theorem cand1_tl (w : Str) (c : Nat) : (cand1 w c).cps.toList = c :: w.cps.toList.drop 1 := by
  unfold cand1
  rw [tl_app, tl_sign]
  unfold cutS
  have h1 : HT.sIx w.length 0 (some 1) = min 1 w.length := HT.sIx_nat _ _ 1
  have h2 : HT.sIx w.length w.length none = w.length := rfl
  rw [h1, h2]
  have h3 : w.length = w.cps.toList.length := len_tl w
  show [c] ++ (List.take (w.length - min 1 w.length) (List.drop (min 1 w.length) w.cps.toList)) = _
  rw [h3]
  show c :: _ = _
  congr 1
  cases w.cps.toList with
  | nil => rfl
  | cons x r =>
    have e : min 1 (x :: r).length = 1 := by simp only [List.length_cons]; omega
    rw [e]
    simp
theorem WInv.word {z y : Str} {ts : List Str} {j : Nat} (h : WInv z ts j y) : IsWord y := h.1
theorem WInv.zero {z : Str} {ts : List Str} (h : IsWord z) : WInv z ts 0 z := ⟨h, h, rfl, .inr fun i c hi => absurd hi (by omega), .inr (.inl rfl)⟩
theorem WInv.stay {z y : Str} {ts : List Str} {j : Nat} (h : WInv z ts j y) (n : y ∉ ts) : WInv z ts (j + 1) y := ⟨h.1, h.2.1, h.2.2.1, .inl n, .inl n⟩
theorem cand1_inj {w : Str} {c d : Nat} (h : cand1 w c = cand1 w d) : c = d := by
  have e : (cand1 w c).cps.toList = (cand1 w d).cps.toList := by rw [h]
  rw [cand1_tl, cand1_tl] at e
  exact (List.cons.inj e).1
theorem cand1_eq {z y : Str} (e : y.cps.toList.drop 1 = z.cps.toList.drop 1) (c : Nat) : cand1 y c = cand1 z c := by
  have h : (cand1 y c).cps.toList = (cand1 z c).cps.toList := by rw [cand1_tl, cand1_tl, e]
  have h2 : (cand1 y c).cps = (cand1 z c).cps := Array.toList_inj.mp h
  cases h3 : cand1 y c
  cases h4 : cand1 z c
  rw [h3, h4] at h2
  cases h2
  rfl
theorem WInv.step {z y : Str} {ts : List Str} {j c : Nat} (h : WInv z ts j y) (hin : y ∈ ts) (hc : abc[j]? = some c) : WInv z ts (j + 1) (cand1 y c) := by
  obtain ⟨h1, h2, h3, h4, h5⟩ := h
  have t := cand1_tl y c
  refine ⟨?_, h2, by rw [t]; exact h3, .inr fun i d hi hd => ?_, .inr (.inr ⟨c, by simpa using hc, cand1_eq h3 c⟩)⟩
  · obtain ⟨w1, w2, w3⟩ := h1
    rw [len_tl] at w1 w2
    refine ⟨by rw [len_tl, t]; simp, ?_, fun x hx => ?_⟩
    · rw [len_tl, t, List.length_cons, List.length_drop]; omega
    · rw [t] at hx
      rcases List.mem_cons.mp hx with e | e
      · rw [e]; exact abc_le (List.mem_of_getElem? hc)
      · exact w3 x (List.mem_of_mem_drop e)
  · rcases Nat.lt_or_ge (i + 1) j with l | l
    · rcases h4 with h4 | h4
      · exact absurd hin h4
      · exact h4 i d l hd
    · have e : i = j - 1 := by omega
      rcases h5 with h5 | h5 | ⟨d2, e1, e2⟩
      · exact absurd hin h5
      · omega
      · rw [e] at hd
        rw [e1] at hd
        cases hd
        rw [← e2]
        exact hin
theorem WInv.done {z y : Str} {ts : List Str} (h : WInv z ts 26 y) (l : ts.length ≤ 24) : y ∉ ts := by
  obtain ⟨_, _, _, h4, _⟩ := h
  rcases h4 with h4 | h4
  · exact h4
  exfalso
  have hm : ∀ x ∈ (abc.take 25).map (cand1 z), x ∈ ts := fun x hx => by
    obtain ⟨c, hc, rfl⟩ := List.mem_map.mp hx
    obtain ⟨i, hi, e⟩ := List.mem_take_iff_getElem.mp hc
    refine h4 i c (by omega) ?_
    rw [← e]
    exact List.getElem?_eq_getElem _
  have nd : ((abc.take 25).map (cand1 z)).Nodup := by
    have h0 : (abc.take 25).Nodup := by decide
    exact List.Pairwise.map _ (fun a b ne q => ne (cand1_inj q)) h0
  have := nodup_le nd hm
  rw [List.length_map] at this
  have : (abc.take 25).length = 25 := rfl
  omega
def spWord2 (K : PySem.W.Frag) : Sp := fun vs H Q _ => ∃ (a b : Addr) (n : Nat) (ts : List Str), vs = [.ref a, .ref b] ∧ Src H a n ∧ n ≤ 900000000 ∧ b ≠ a ∧ SqL K H b (ts.map V.str) ∧ ts.length ≤ 24 ∧
  ∀ H' w, Keep a H H' → Src H' a (n + 10) → IsWord w → w ∉ ts → Q (.str w) H'
def GoodWs (ws ts : List Str) : Prop := ws.Nodup ∧ ∀ z ∈ ws, IsWord z ∧ z ∉ ts
theorem GoodWs.nil {ts : List Str} : GoodWs [] ts := ⟨List.nodup_nil, fun _ h => (List.not_mem_nil h).elim⟩
theorem GoodWs.snoc {ws ts : List Str} {z : Str} (h : GoodWs ws ts) (hz : IsWord z) (n : z ∉ ts ++ ws) : GoodWs (ws ++ [z]) ts := by
  have n1 : z ∉ ts := fun m => n (List.mem_append_left _ m)
  have n2 : z ∉ ws := fun m => n (List.mem_append_right _ m)
  refine ⟨List.nodup_append.mpr ⟨h.1, by simp, fun x hx y hy => ?_⟩, fun x hx => ?_⟩
  · rw [List.mem_singleton.mp hy]
    exact fun e => n2 (e ▸ hx)
  · rcases List.mem_append.mp hx with m | m
    · exact h.2 x m
    · rw [List.mem_singleton.mp m]; exact ⟨hz, n1⟩
def spWords (K : PySem.W.Frag) : Sp := fun vs H Q _ => ∃ (a b : Addr) (n : Nat) (m : Int) (ts : List Str), vs = [.ref a, .int m, .ref b] ∧ Src H a n ∧ n ≤ 800000000 ∧ b ≠ a ∧ H b = some (.lst (ts.map V.str)) ∧ ts.length ≤ 10 ∧ (0 ≤ m ∧ m ≤ 8) ∧
  ∀ l H' ws, H l = none → Keep a H H' → Src H' a (n + 80) → H' l = some (.lst (ws.map V.str)) → ws.length = m.toNat → GoodWs ws ts → Q (.ref l) H'
def spNumL : Sp := fun vs H Q _ => ∃ (a : Addr) (n : Nat) (m : Int), vs = [.ref a, .int m] ∧ Src H a n ∧ n ≤ 900000000 ∧ 0 < m ∧ m.natAbs < 2 ^ 198 ∧
  ∀ H' i, Keep a H H' → Src H' a (n + 2) → Q (.int i) H'
structure TxtQ (mg : Str → Option Value) : Prop where
  isi : mg "isinstance" = none
  int : mg "int" = none
  bool : mg "bool" = none
  list : mg "list" = none
  dict : mg "dict" = none
end Lw

set_option Elab.async false
set_option linter.all false
set_option maxRecDepth 100000
set_option maxHeartbeats 4000000
namespace Lk
open PySem PySem.Spec PyProof.Rows L2
/-! list(d.keys()) -/
def tListKeys (te : TE) : TE := fun σ H Q => te σ H fun x H1 => ∃ (d : Addr) (kvs : List (Key × V)), x = .ref d ∧ H1 d = some (.dK kvs) ∧ ∀ p, H1 p = none → Q (.ref p) (upd H1 p (.lst (kvs.map fun kv => kV kv.1)))
section
variable {X : Cx} {e : Expr} {te : TE} {p apos cpos pos : Pos}
theorem pe_listKeys (hc : X.calm = true) (he : PE X e te) (hg : Gl X "list") (hm : X.mg "list" = none) (hv : bootBuiltins "list" = some (.type "list")) (hbase : attributeBase e "keys" X.env (eval e X.env) = eval e X.env := by rfl) (hline : (apos.endLine == cpos.line) = true := by rfl)
    (hs : starEach [.Call (.Attribute e "keys" apos) [] [] cpos] X.env = (false, eval (.Call (.Attribute e "keys" apos) [] [] cpos) X.env) :: starEach [] X.env := by rfl) :
    PE X (.Call (.Name "list" p) [.Call (.Attribute e "keys" apos) [] [] cpos] [] pos) (tListKeys te) := by
  refine ⟨fun pins s σ H Q I hq => ?_⟩
  refine wpAny_Call_Name_kw (ld_blt I hg hm hv ?_)
  refine PyProof.Rows.callWith_type1 ?_ hs rfl
  rw [hs]
  show wpAny _ _ (spliced ((false, eval (.Call (.Attribute e "keys" apos) [] [] cpos) X.env) :: backTo pos (starEach [] X.env))) _ _ s
  refine Calls.spliced_cons ?_
  refine wpAny_Call_method (T := "dict") (id := "dict.keys") hbase rfl hline F.plainAttrs_dict F.slot_dict_keys F.type_dict_keys (thn (he.run pins s σ H _ I hq) fun u s1 ⟨x, H1, I1, rx, d, kvs, ex, hd, q⟩ => ?_)
  subst ex
  obtain rfl : u = Value.ref d := rx
  obtain ⟨hz, hs0, vs, kv, hdo⟩ := I1.hok d _ hd
  obtain ⟨ep, hat⟩ := hdo.dictAt
  have lk : kvs.length = vs.length := Paired.length kv
  have I2 : Inv X pins σ H1 { s1 with heap := s1.heap.push { cls := .type "dict_keys", data := .fields #[.ref d] } } := I1.kept (t' := s1.toks) fun b ob q => Heap.get?_push_of_some _ q
  have ek : (kvs.map fun kv => kV kv.1) = vs.map fun p => kV p.1 := by
    have e := congrArg (List.map kV) kv.keys
    rw [List.map_map, List.map_map] at e
    exact e
  refine ⟨hdo.typeIs, hdo.mapOf.noDict, ?_⟩
  show wpAny _ _ (callWith cpos (.builtin "dict.keys") [.ref d] [] []) _ X.xe s1
  refine method_meetsIn F.slot_dict_keys F.entry_dict_keys rfl (PySem.evalArgs_none ⟨rfl, hdo.typeIs, F.args_dict_keys_1 _, _, PySem.W.kdl_meets_keys (mixKind X.prog X.w) d hs0, ⟨vs, hdo⟩, ?_⟩)
  refine Calls.spliced_nil ?_
  refine PySem.W.kdl_call (PySem.W.kdl_keys (knd := mixKind X.prog X.w) (kvs := vs) (ep := ep)) (I1.ok.hd hc) ⟨⟨_, Heap.get?_push_size _ rfl, rfl, rfl⟩, hat.push _⟩ (by rw [← lk]; exact hz) fun h' tk acc c' hk hD hacc => ?_
  have hv2 : Vals (vs.map fun p => kV p.1) acc.toList := keys_at (by rw [Array.length_toList]; exact hacc.1) fun j v e => hacc.2 j v (by rw [← Array.getElem?_toList]; exact e)
  refine ⟨.ref _, upd H1 _ (.lst (kvs.map fun kv => kV kv.1)), I2.laid (t' := tk) hk (Nat.le_refl _)
    (show ObjOk X.prog X.w _ _ _ (.lst (kvs.map fun kv => kV kv.1)) from ⟨by rw [List.length_map]; exact hz, acc.toList, c', by rw [ek]; exact hv2, by rw [Array.toArray_toList]; exact hD⟩), rfl, q _ (I2.hok.fresh (Nat.le_refl _))⟩
end
end Lk
namespace Lw
open PySem PySem.Spec PyProof.Rows L2
/-! one order of texts only -/
theorem rising_all : ∀ (r : List Str) (p : Str), risingS p r = true → (∀ y ∈ r, p.cps.toList ≤ y.cps.toList) ∧ sortedS r = true
  | [], _, _ => ⟨fun _ h => (List.not_mem_nil h).elim, rfl⟩
  | x :: r, p, h => by
    unfold risingS at h
    rw [Bool.and_eq_true, Bool.not_eq_true', ltCps_eq] at h
    have h1 : ¬ x.cps.toList < p.cps.toList := of_decide_eq_false h.1
    have h2 : p.cps.toList ≤ x.cps.toList := List.not_lt.mp h1
    refine ⟨fun y hy => ?_, h.2⟩
    rcases List.mem_cons.mp hy with rfl | hy
    · exact h2
    · exact List.le_trans h2 ((rising_all r x h.2).1 y hy)
theorem str_ext {a b : Str} (h : a.cps.toList = b.cps.toList) : a = b := by
  have := Array.toList_inj.mp h
  cases a
  cases b
  cases this
  rfl
theorem sorted_one : ∀ {xs ys : List Str}, sortedS xs = true → sortedS ys = true → xs.Perm ys → xs = ys
  | [], ys, _, _, p => by rw [List.nil_perm.mp p]
  | x :: xs, [], _, _, p => by cases List.perm_nil.mp p
  | x :: xs, y :: ys, hx, hy, p => by
    obtain ⟨a1, a2⟩ := rising_all xs x hx
    obtain ⟨b1, b2⟩ := rising_all ys y hy
    have e : x = y := by
      rcases List.mem_cons.mp (p.mem_iff.mp List.mem_cons_self) with e | e
      · exact e
      rcases List.mem_cons.mp (p.mem_iff.mpr (List.mem_cons_self (a := y))) with e2 | e2
      · exact e2.symm
      exact str_ext (List.le_antisymm (a1 y e2) (b1 x e))
    subst e
    rw [sorted_one a2 b2 (List.Perm.cons_inv p)]
end Lw

set_option Elab.async false
set_option linter.all false
set_option maxRecDepth 100000
set_option maxHeartbeats 0
namespace Hc
open PySem PySem.Spec PyProof.Rows L2
/-! a Hook: facts, defs wherever they stand, one Bool more -/
abbrev Al : Type := He.AlD × Bool
def obG (n : Nat) (fa : List He.Fa) (fn : List He5.DefA) (own : PySem.W.Frag → Bool) (g : Addr → Option Obj) : Al := (He5.obsAG n fa fn g, own (He.frG g (He5.asA g n)))
def Says (fa : List He.Fa) (fn : List He5.DefA) (own : PySem.W.Frag → Bool) (K : PySem.W.Frag) : Prop := He5.SaysA fa fn K ∧ own K = true
def hook (n : Nat) (fa : List He.Fa) (fn : List He5.DefA) (own : PySem.W.Frag → Bool) : PySem.W.Hook where
  α := Al
  obs := fun s => obG n fa fn own s.heap.get?
  val := fun _ => (He5.valA fn, true)
  says := fun _ h => ∃ K : PySem.W.Frag, K.In h ∧ Says fa fn own K
  of := fun _ _ e => ⟨_, He.frG_in, congrArg Prod.fst e, congrArg Prod.snd e⟩
  keeps := fun _ _ _ ⟨K, hK, c⟩ k => ⟨K, PySem.W.Frag.In.keeps hK k, c⟩
theorem obG_eq {n : Nat} {fa : List He.Fa} {fn : List He5.DefA} {own : PySem.W.Frag → Bool} {g : Addr → Option Obj} {s : Shared} (h : ∀ a, g a = s.heap.get? a) : obG n fa fn own g = (hook n fa fn own).obs s := by
  rw [show g = s.heap.get? from funext h] <;> rfl
theorem Says.fact {fa : List He.Fa} {fn : List He5.DefA} {own : PySem.W.Frag → Bool} {K : PySem.W.Frag} (c : Says fa fn own K) {f : He.Fa} (hf : f ∈ fa) : f.ok K = true := by
  obtain ⟨i, hi⟩ := List.getElem?_of_mem hf
  exact c.1.fact i hi
/-- a class's constants -/
def cvS (K : PySem.W.Frag) (C : Addr) (f z : Str) : Bool := match PySem.W.findCls K (.ref C) (.type "type") f with
  | some (.val (.str y _)) => decide (y = z)
  | _ => false
def cvI (K : PySem.W.Frag) (C : Addr) (f : Str) (i : Int) : Bool := match PySem.W.findCls K (.ref C) (.type "type") f with
  | some (.val (.int y _)) => decide (y = i)
  | _ => false
theorem cvS_ok {K : PySem.W.Frag} {C : Addr} {f z : Str} (h : cvS K C f z = true) : ∃ u, ClX.CVal K C (.type "type") f (.str z) u := by
  unfold cvS at h
  split at h
  · rename_i y t e
    exact ⟨_, e, t, by rw [of_decide_eq_true h]⟩
  · cases h
theorem cvI_ok {K : PySem.W.Frag} {C : Addr} {f : Str} {i : Int} (h : cvI K C f i = true) : ∃ u, ClX.CVal K C (.type "type") f (.int i) u := by
  unfold cvI at h
  split at h
  · rename_i y t e
    exact ⟨_, e, t, by rw [of_decide_eq_true h]⟩
  · cases h
def crB (K : PySem.W.Frag) (C : Addr) : Bool := PySem.W.readsIn K C (.type "type") && He.eqO (PySem.W.specialIn K (.ref C) "__getattribute__") (some (some (.builtin "type.__getattribute__")))
theorem crB_ok {K : PySem.W.Frag} {C : Addr} (h : crB K C = true) : ClX.CRead K C (.type "type") := ⟨(He.ba h).1, He.eqO_ok (He.ba h).2⟩
end Hc
namespace Lw
open PySem PySem.Spec PyProof.Rows L2
def dG (x : Str) (st : Stmt) : He5.DefA := ⟨fun K => He.ga K x, x, x, defArgs st, defBody st, defScope st, [], []⟩
def dM (C m q : Str) (st : Stmt) (kwd : List (Str × He.Dv) := []) : He5.DefA := ⟨fun K => He.ma K (He.ga K C) m, m, q, defArgs st, defBody st, defScope st, [], kwd⟩
end Lw

set_option Elab.async false
set_option linter.all false
set_option maxRecDepth 100000
set_option maxHeartbeats 4000000
namespace Lw
open PySem PySem.Spec PyProof.Rows L2
/-! an expression that may be read in two ways -/
theorem pe_or {X : Cx} {e : Expr} {t1 t2 : TE} (h1 : PE X e t1) (h2 : PE X e t2) : PE X e (fun σ H Q => t1 σ H Q ∨ t2 σ H Q) := ⟨fun pins s σ H Q I h => h.elim (h1.run pins s σ H Q I) (h2.run pins s σ H Q I)⟩
theorem kb1 {K : PySem.W.Frag} {x qual : Str} {params : Arguments} {body : List Stmt} {scope : Scope} {kws : List (Str × V)} {f : Addr} {fd : FuncData} {ps ks : List Str} {g : List Value → List Value} {gV : List V → List V} (F : FunD K x qual params body scope [] kws f fd) (hr : ∀ {zs us}, Vals zs us → Vals (gV zs) (g us))
    (h : ∀ (kV doc pm : Value) (an : Option Addr) (cdv ct : Value) (u : Value) (ws : List Value), ws.length = ks.length → bindArgs (PySem.W.fnOf x qual params body scope .none kV doc pm an cdv ct) ⟨[u], ks.zip ws⟩ = pure (ps.zip (u :: g ws))) : KBn K fd ps 1 ks (fun us ws => us ++ g ws) (fun vs zs => vs ++ gV zs) := by
  obtain ⟨oc, od, dV, kV, doc, pm, an, cdv, ct, osl, rfl, lk, hcd, hD, hK⟩ := F.ex
  rcases hD with ⟨_, rfl⟩ | ⟨e, _⟩
  · exact ⟨fun s us ws _ l1 l2 => by
      match us, l1 with
      | [u], _ => exact .of_eq (h kV doc pm an cdv ct u ws l2), fun r q => r.append (hr q)⟩
  · exact absurd rfl e
/-! properties of the text's classes -/
def propB (K : PySem.W.Frag) (C : Addr) (m : Str) : Bool := He.eqO (PySem.W.findIn K (.ref C) m) (some (some (.ref (He.ma K C m)))) && (He.eqO (PySem.W.specialIn K (.ref (He.ma K C m)) "__get__") (some (some (.builtin "property.__get__"))) &&
  (decide (PySem.W.takesIn K (.ref (He.ma K C m)) = some true) && (match PySem.W.recIn K (He.ma K C m) "property" with
    | some (.ref _ :: _) => true
    | _ => false)))
theorem propB_ok {K : PySem.W.Frag} {C : Addr} {m : Str} (h : propB K C m = true) : PropOf K C m (He.ma K C m) (He5.wf K C "property" m) := by
  obtain ⟨h1, h⟩ := He.ba h
  obtain ⟨h2, h⟩ := He.ba h
  obtain ⟨h3, h4⟩ := He.ba h
  refine ⟨He.eqO_ok h1, He.eqO_ok h2, of_decide_eq_true h3, ?_⟩
  unfold He5.wf
  split at h4
  · rename_i f r e
    rw [e]
    exact ⟨r, rfl⟩
  · cases h4
def conB (K : PySem.W.Frag) (C : Addr) (f z : Str) : Bool := match PySem.W.findIn K (.ref C) f with
  | some (some (.str y t)) => decide (y = z) && He.eqO (PySem.W.specialIn K (.str y t) "__get__") (some none)
  | _ => false
theorem conB_ok {K : PySem.W.Frag} {C : Addr} {f z : Str} (h : conB K C f z = true) (hc : PySem.W.copiedNames.contains f = false) : ∃ u, Con K C f (.str z) u := by
  unfold conB at h
  split at h
  · rename_i y t e
    obtain ⟨h1, h2⟩ := He.ba h
    have e1 := of_decide_eq_true h1
    subst e1
    exact ⟨_, e, ⟨_, rfl⟩, He.eqO_ok h2, hc⟩
  · cases h
def dP (C m q : Str) (st : Stmt) : He5.DefA := ⟨fun K => He5.wf K (He.ga K C) "property" m, m, q, defArgs st, defBody st, defScope st, [], []⟩
/-! cells: names with integers or None -/
def IntN (v : V) : Prop := (∃ i : Int, v = .int i) ∨ v = .non
def RowOk (kvs : List (Key × V)) : Prop := (∃ ks : List Str, kvs.map (·.1) = ks.map Sum.inr ∧ ks.Nodup ∧ ∀ z ∈ ks, IsWord z) ∧ (∀ p ∈ kvs, IntN p.2) ∧ kvs.length ≤ 60
theorem IntN.flat {v : V} (h : IntN v) : flatB v = true := by
  rcases h with ⟨i, rfl⟩ | rfl <;> rfl
theorem RowOk.nodup {kvs : List (Key × V)} (h : RowOk kvs) : (kvs.map (·.1)).Nodup := by
  obtain ⟨⟨ks, e, n, _⟩, _⟩ := h
  rw [e]
  exact List.Pairwise.map _ (fun a b ne q => ne (Sum.inr.inj q)) n
theorem valV_mem : ∀ {kvs : List (Key × V)}, (kvs.map (·.1)).Nodup → ∀ p ∈ kvs, valV kvs p.1 = some p.2
  | [], _, _, h => by cases h
  | (k, v) :: r, n, p, h => by
    rw [List.map_cons, List.nodup_cons] at n
    rcases List.mem_cons.mp h with rfl | h
    · show valV ((k, v) :: r) k = some v
      unfold valV
      simp
    · have ne : p.1 ≠ k := fun e => n.1 (by rw [← e]; exact List.mem_map.mpr ⟨p, h, rfl⟩)
      have ih := valV_mem n.2 p h
      have hd : decide (k = p.1) = false := decide_eq_false fun e => ne e.symm
      show ((List.find? (fun kv => decide (kv.1 = p.1)) ((k, v) :: r)).map (·.2)) = some p.2
      rw [List.find?_cons]
      simp only [hd]
      exact ih
theorem depth_strs : ∀ ks : List Str, PyData.depthAll (ks.map PyData.str) = 0
  | [] => rfl
  | z :: r => by
    show max (PyData.depth (.str z)) (PyData.depthAll (r.map PyData.str)) = 0
    rw [depth_strs r]
    rfl
theorem canLay_strs : ∀ ks : List Str, (∀ z ∈ ks, IsWord z) → PyData.canLayAll0 (ks.map PyData.str) = true
  | [], _ => rfl
  | z :: r, h => by
    show (PyData.canLay0 (.str z) && PyData.canLayAll0 (r.map PyData.str)) = true
    rw [canLay_strs r fun y hy => h y (List.mem_cons_of_mem _ hy)]
    have h3 : PyData.canLay0 (.str z) = true := by
      show z.cps.all (· < 0x110000) = true
      rw [← Array.all_toList, List.all_eq_true]
      intro c hc
      have := (h z List.mem_cons_self).2.2 c hc
      exact decide_eq_true (by omega)
    rw [h3]
    rfl
theorem shaped_strs (ks : List Str) (h : ∀ z ∈ ks, IsWord z) : SeqAt.shaped (.list (ks.map PyData.str)) = true := by
  have e1 : PyData.canLay0 (.list (ks.map PyData.str)) = true := canLay_strs ks h
  have e2 : PyData.depth (.list (ks.map PyData.str)) ≤ 64 := by
    have e3 := depth_strs ks
    simp only [PyData.depth, e3]
    decide
  unfold SeqAt.shaped
  rw [e1, decide_eq_true e2]
  rfl
theorem eqv_strs {ks : List Str} (h : ∀ z ∈ ks, IsWord z) : PyData.eqv (.list (ks.map PyData.str)) (.list (ks.map PyData.str)) = true := PySem.SeqAt.eqv_refl _ (canLay_strs ks h)
theorem scalN {v : V} (h : IntN v) : scal v v = true := by
  rcases h with ⟨i, rfl⟩ | rfl <;> rfl
theorem src_ne_strs {H : Hp} {a l : Addr} {n : Nat} {ws : List Str} (hs : Src H a n) (hl : H l = some (.lst (ws.map V.str))) : l ≠ a := fun z => by
  obtain ⟨_, _, _, h, _⟩ := hs
  subst z
  rw [hl] at h
  have e := HO.lst.inj (Option.some.inj h)
  cases ws with
  | nil => cases e
  | cons z r => cases e
theorem str_it {a b : Str} {A B : Prop} (h1 : a = b → A) (h2 : a ≠ b → B) : if decide (V.str a = V.str b) = true then A else B := by
  by_cases e : a = b
  · rw [if_pos (by rw [decide_eq_true_eq, e])]; exact h1 e
  · rw [if_neg (by rw [decide_eq_true_eq]; exact fun z => e (V.str.inj z))]; exact h2 e
theorem dec_str {a b : Str} : decide (V.str a = V.str b) = decide (a = b) := by
  by_cases e : a = b
  · rw [decide_eq_true e, decide_eq_true (by rw [e])]
  · rw [decide_eq_false e, decide_eq_false fun z => e (V.str.inj z)]
/-- both branches come to R -/
theorem sq_ifj {c : TT} {t1 t2 u : TS} {D : Ends} {σ : L2.St} {H : Hp} (P : Bool → Hp → Prop) (R : Hp → Prop) (h : ∀ Q : Bool → Hp → Prop, (∀ b H', P b H' → Q b H') → c σ H Q) (kt : ∀ H', P true H' → ∀ D' : Ends, (∀ G, R G → D'.nx σ G) → t1 D' σ H') (kf : ∀ H', P false H' → ∀ D' : Ends, (∀ G, R G → D'.nx σ G) → t2 D' σ H')
    (k : ∀ G, R G → u D σ G) : tSeq (tIfS c t1 t2) u D σ H :=
  h _ fun b H' p => by
    cases b with
    | true => rw [if_pos rfl]; exact kt H' p _ k
    | false => rw [if_neg Bool.false_ne_true]; exact kf H' p _ k
theorem s1_do {te : TE} {D : Ends} {σ : L2.St} {H : Hp} (P : V → Hp → Prop) (h : ∀ Q : VK, (∀ x H', P x H' → Q x H') → te σ H Q) (k : ∀ x H', P x H' → D.nx σ H') : (tDrop te) D σ H := h _ k
theorem putK_new {kvs : List (Key × V)} {k : Key} {v : V} (h : k ∉ kvs.map (·.1)) : putK kvs k v = kvs ++ [(k, v)] := by
  unfold putK
  rw [if_neg]
  intro e
  obtain ⟨p, hp, e2⟩ := List.any_eq_true.mp e
  exact h (List.mem_map.mpr ⟨p, hp, of_decide_eq_true e2⟩)
theorem RowOk.snoc {kvs : List (Key × V)} {z : Str} {v : V} (h : RowOk kvs) (n : (Sum.inr z : Key) ∉ kvs.map (·.1)) (hz : IsWord z) (hv : IntN v) (l : kvs.length < 60) : RowOk (kvs ++ [(.inr z, v)]) := by
  obtain ⟨⟨ks, e, nd, w⟩, i, _⟩ := h
  refine ⟨⟨ks ++ [z], by rw [List.map_append, List.map_append, e]; rfl, ?_, fun y hy => ?_⟩, fun p hp => ?_, by rw [List.length_append]; show kvs.length + 1 ≤ 60; omega⟩
  · refine List.nodup_append.mpr ⟨nd, by simp, fun x hx y hy => ?_⟩
    rw [List.mem_singleton.mp hy]
    rintro rfl
    exact n (by rw [e]; exact List.mem_map.mpr ⟨x, hx, rfl⟩)
  · rcases List.mem_append.mp hy with m | m
    · exact w y m
    · rw [List.mem_singleton.mp m]; exact hz
  · rcases List.mem_append.mp hp with m | m
    · exact i p m
    · rw [List.mem_singleton.mp m]; exact hv
theorem RowOk.nil : RowOk [] := ⟨⟨[], rfl, List.nodup_nil, fun _ h => (List.not_mem_nil h).elim⟩, fun _ h => (List.not_mem_nil h).elim, Nat.zero_le _⟩
theorem mergeK_new : ∀ (more kvs : List (Key × V)), ((kvs ++ more).map (·.1)).Nodup → mergeK kvs more = kvs ++ more
  | [], kvs, _ => by rw [List.append_nil]; rfl
  | p :: r, kvs, h => by
    have h2 : ((kvs ++ [p]) ++ r) = kvs ++ p :: r := by simp
    have n : p.1 ∉ kvs.map (·.1) := fun m => by
      rw [List.map_append, List.map_cons] at h
      exact (List.nodup_append.mp h).2.2 p.1 m p.1 List.mem_cons_self rfl
    show mergeK (putK kvs p.1 p.2) r = _
    rw [putK_new n, ← h2]
    exact mergeK_new r (kvs ++ [p]) (by rw [h2]; exact h)
theorem RowOk.rev {kvs : List (Key × V)} (h : RowOk kvs) : RowOk kvs.reverse := by
  obtain ⟨⟨ks, e, n, w⟩, i, l⟩ := h
  refine ⟨⟨ks.reverse, by rw [List.map_reverse, e, List.map_reverse], List.Perm.nodup (List.reverse_perm ks).symm n, fun z hz => w z (List.mem_reverse.mp hz)⟩, fun p hp => i p (List.mem_reverse.mp hp), by rw [List.length_reverse]; exact l⟩
end Lw

set_option Elab.async false
set_option linter.all false
set_option maxRecDepth 100000
set_option maxHeartbeats 4000000
namespace Tr
open PySem PySem.Spec PyProof.Rows L2
/-! rules that the terms of filters need -/
section
variable {X : Cx}
def b2n (b : Bool) : Int := if b = true then 1 else 0
/-- bool - bool -/
theorem op_subBl : OpR X (binaryOp .Sub) (fun x y H Q => ∃ a b : Bool, x = .bl a ∧ y = .bl b ∧ Q (.int (b2n a - b2n b)) H) := by
  intro pins s σ H x y v u Q I rx ry h
  obtain ⟨a, b, rfl, rfl, q⟩ := h
  cases (show v = Value.bool a from rx)
  cases (show u = Value.bool b from ry)
  exact PyProof.Rows.sub_bool ⟨.int _, H, I.tok _, ⟨_, rfl⟩, q⟩
/-- x is b, x None or a bool, b a bool -/
theorem op_isNb : OpR X (compareOp .Is) (fun x y H Q => ∃ (a : Option Bool) (b : Bool), x = (match a with | some c => .bl c | none => .non) ∧ y = .bl b ∧ Q (.bl (decide (a = some b))) H) := by
  intro pins s σ H x y v u Q I rx ry h
  obtain ⟨a, b, rfl, rfl, q⟩ := h
  cases (show u = Value.bool b from ry)
  cases a with
  | none =>
    cases (show v = Value.none from rx)
    exact wpAny_is_other rfl (fun z => by cases z) ⟨.bl false, H, I, rfl, by simpa using q⟩
  | some c =>
    cases (show v = Value.bool c from rx)
    by_cases e : c = b
    · subst e
      exact wpAny_is_self rfl ⟨.bl true, H, I, rfl, by simpa using q⟩
    · exact wpAny_is_other rfl (fun z => e (Value.bool.inj z)) ⟨.bl false, H, I, rfl, by simpa [e] using q⟩
/-- d[k], d a written dict -/
def tKd (K : PySem.W.Frag) (d : Addr) (td ty : TE) : TE := fun σ H Q => td σ H fun x H1 => ty σ H1 fun y H2 => ∃ (z : Str) (u0 : Value) (v0 : V), x = .ref d ∧ y = .str z ∧ PySem.W.nsIn K d z = some (some u0) ∧ RelV v0 u0 ∧ Q v0 H2
theorem pe_kd {o i : Expr} {pos : Pos} {td ty : TE} {d : Addr} {es : Array DictEntry} {n : Nat} (D : KDict X.K X.w d es n) (ho : PE X o td) (hi : PE X i ty) (hs : NoSl i) : PE X (.Subscript o i pos) (tKd X.K d td ty) := by
  constructor
  intro pins s σ H Q I h
  refine subD_of PySem.F.slot_dict_getitem.lookup hs (thn (ho.run pins s σ H _ I h) ?_)
  rintro u s1 ⟨x, H1, I1, rx, q1⟩
  refine thn (hi.run pins s1 σ H1 _ I1 q1) ?_
  rintro iv s2 ⟨y, H2, I2, ry, z, u0, v0, rfl, rfl, e, r, q⟩
  obtain rfl : u = Value.ref d := rx
  exact ⟨kd_type D I2, op_item_kd D pins s2 σ H2 (.ref d) (.str z) (.ref d) iv Q I2 rfl ry ⟨z, u0, v0, rfl, rfl, e, r, q⟩⟩
end
end Tr

set_option Elab.async false
set_option linter.all false
set_option maxRecDepth 100000
set_option maxHeartbeats 2000000
namespace Zt
open PySem PySem.Spec PyProof.Rows L2
open PySem.W (KdxIt kdx_alive)
/-! dict(zip(t, u)) of two tuples -/
section
variable {P : Program} {w : World} {A : Around} {E : Value → Shared → Prop} {s : Shared} {z a b j m t u T : Addr} {f : Bool} {oT : Obj} {p q : Nat} {xs ys : Array Value}
/-- both iterators and what they go over -/
structure Two (h : Heap) (a j m t u : Addr) (p q : Nat) (xs ys : Array Value) : Prop where
  pr : IsPair h a (.ref j) (.ref m)
  it1 : h.IsTupleIter j t p
  it2 : h.IsTupleIter m u q
  src1 : h.IsTuple t xs
  src2 : h.IsTuple u ys
theorem Two.moved {h g : Heap} (D : ZipApart z a b j m t u) (Y : Two h a j m t u p q xs ys) (k : ∀ c o, c ≠ z → c ≠ b → c ≠ j → c ≠ m → h.get? c = some o → g.get? c = some o) (e1 : g.IsTupleIter j t (p + 1)) (e2 : g.IsTupleIter m u (q + 1)) : Two g a j m t u (p + 1) (q + 1) xs ys :=
  ⟨k _ _ D.TIz D.TITO D.TIi1 D.TIi2 Y.pr, e1, e2, Y.src1.at fun o e => k _ o D.l1z D.l1TO D.l1i1 D.l1i2 e, Y.src2.at fun o e => k _ o D.l2z D.l2TO D.l2i1 D.l2i2 e⟩
theorem Two.stay {h g : Heap} (Y : Two h a j m t u p q xs ys) (k : ∀ c o, (c = a ∨ c = j ∨ c = m ∨ c = t ∨ c = u) → h.get? c = some o → g.get? c = some o) : Two g a j m t u p q xs ys :=
  ⟨k _ _ (.inl rfl) Y.pr, Y.it1.at fun o e => k _ o (.inr (.inl rfl)) e, Y.it2.at fun o e => k _ o (.inr (.inr (.inl rfl))) e, Y.src1.at fun o e => k _ o (.inr (.inr (.inr (.inl rfl)))) e, Y.src2.at fun o e => k _ o (.inr (.inr (.inr (.inr rfl)))) e⟩
theorem held_item {x y : Value} {Q : Value → Shared → Prop} (D : ZipApart z a b j m t u) (hz : IsZipHeld s.heap z a b T f) (out : s.heap.get? T = some oT) (Y : Two s.heap a j m t u p q xs ys) (hx : xs[p]? = some x) (hy : ys[q]? = some y)
    (fin : ∀ g, IsZipHeld g z a b T true → g.IsTupleIter j t (p + 1) → g.IsTupleIter m u (q + 1) → IsPair g s.heap.objs.size x y → g.objs.size = s.heap.objs.size + 1 → (∀ c o, c ≠ z → c ≠ j → c ≠ m → s.heap.get? c = some o → g.get? c = some o) → Q (.ref s.heap.objs.size) { s with heap := g }) :
    wpAny (model P w) A (Builtin.«zip.__next__» ⟨[.ref z], []⟩) (fun r s2 => ∃ v, r = .done (.ret v) ∧ Q v s2) E s := by
  refine wpAny_bind (m := field (.ref z) 2) (wpAny_field hz rfl (x := .bool false) rfl (wpAny_bind (m := field (.ref z) 3) (wpAny_field hz rfl (x := .ref a) rfl (wpAny_bind (wpAny_seqItems Y.pr rfl ?_)))))
  refine wpAny_bind (m := Builtin.SmallTypes.ownedTupleIsFree (.ref z)) (wpAny_tupleHeld_zip hz out fun g1 z1 b1 => ?_)
  simp only [Bool.false_eq_true, if_false]; refine wpAny_bind ?_
  rw [← Array.forIn_toList]; simp only [List.forIn_cons, List.forIn_nil]
  refine wpAny_bind (wpAny_bind (wpAny_holding (wpAny_bind (m := Builtin.SmallTypes.nextOf (.ref j)) (RZ.nextOf_tuple_item (s := { s with heap := g1 }) (Y.it1.extBut b1.extBut D.i1z) (Y.src1.extBut b1.extBut D.l1z) hx fun g2 e2 b2 => wpAny_pure (wpAny_pure ?_)))))
  refine wpAny_bind (wpAny_bind (wpAny_holding (wpAny_bind (m := Builtin.SmallTypes.nextOf (.ref m)) (RZ.nextOf_tuple_item (s := { s with heap := g2 }) ((Y.it2.extBut b1.extBut D.i2z).extBut b2.extBut D.i12.symm) ((Y.src2.extBut b1.extBut D.l2z).extBut b2.extBut D.l2i1) hy fun g3 e3 b3 => wpAny_pure (wpAny_pure (wpAny_pure ?_))))))
  refine wpAny_bind (m := newTuple [x, y]) (wpAny_newTuple (wpAny_pure ⟨_, rfl, ?_⟩))
  have sz : g3.objs.size = s.heap.objs.size := by rw [b3.1, b2.1, b1.1]
  have kp : ∀ c o, c ≠ z → c ≠ j → c ≠ m → s.heap.get? c = some o → g3.get? c = some o := fun c o n1 n2 n3 e => b3.extBut _ _ n3 (b2.extBut _ _ n2 (b1.extBut _ _ n1 e))
  have pr : IsPair (g3.push { cls := .type "tuple", data := .seq #[x, y] }) g3.objs.size x y := Heap.get?_push_size _ rfl
  have sz2 : (g3.push { cls := .type "tuple", data := .seq #[x, y] }).objs.size = g3.objs.size + 1 := Heap.size_push ..
  show Q (.ref g3.objs.size) _
  rw [sz] at pr sz2 ⊢
  exact fin _ (Heap.get?_push_of_some _ (b3.extBut _ _ D.i2z.symm (b2.extBut _ _ D.i1z.symm z1))) ((e2.extBut b3.extBut D.i12).at fun o e => Heap.get?_push_of_some _ e) (e3.at fun o e => Heap.get?_push_of_some _ e) pr sz2 fun c o n1 n2 n3 e => Heap.get?_push_of_some _ (kp c o n1 n2 n3 e)
theorem held_end {Q : Fin → Shared → Prop} (calm : A.handled = none) (D : ZipApart z a b j m t u) (hz : IsZipHeld s.heap z a b T f) (out : s.heap.get? T = some oT) (Y : Two s.heap a j m t u p q xs ys) (hx : xs[p]? = none ∨ ys[q]? = none)
    (fin : ∀ g e, (∀ c o, c ≠ z → c ≠ j → c ≠ m → s.heap.get? c = some o → g.get? c = some o) → (∃ o, g.get? e = some o ∧ o.cls = .type "StopIteration") → E (.ref e) { s with heap := g }) :
    wpAny (model P w) A (Builtin.«zip.__next__» ⟨[.ref z], []⟩) Q E s := by
  refine wpAny_bind (m := field (.ref z) 2) (wpAny_field hz rfl (x := .bool false) rfl (wpAny_bind (m := field (.ref z) 3) (wpAny_field hz rfl (x := .ref a) rfl (wpAny_bind (wpAny_seqItems Y.pr rfl ?_)))))
  refine wpAny_bind (m := Builtin.SmallTypes.ownedTupleIsFree (.ref z)) (wpAny_tupleHeld_zip hz out fun g1 z1 b1 => ?_)
  simp only [Bool.false_eq_true, if_false]; refine wpAny_bind ?_
  rw [← Array.forIn_toList]; simp only [List.forIn_cons, List.forIn_nil]
  cases ex : xs[p]? with
  | none =>
    refine wpAny_bind (wpAny_bind (wpAny_holding (wpAny_bind (m := Builtin.SmallTypes.nextOf (.ref j)) (RZ.nextOf_tuple_end (s := { s with heap := g1 }) calm (Y.it1.extBut b1.extBut D.i1z) (Y.src1.extBut b1.extBut D.l1z) ex fun g2 e b2 he => ?_))))
    exact fin g2 e (fun c o n1 n2 _ x => b2 _ _ n2 (b1.extBut _ _ n1 x)) he
  | some x =>
    have ey : ys[q]? = none := hx.elim (fun h => by rw [ex] at h; cases h) id
    refine wpAny_bind (wpAny_bind (wpAny_holding (wpAny_bind (m := Builtin.SmallTypes.nextOf (.ref j)) (RZ.nextOf_tuple_item (s := { s with heap := g1 }) (Y.it1.extBut b1.extBut D.i1z) (Y.src1.extBut b1.extBut D.l1z) ex fun g2 e2 b2 => wpAny_pure (wpAny_pure ?_)))))
    refine wpAny_bind (wpAny_bind (wpAny_holding (wpAny_bind (m := Builtin.SmallTypes.nextOf (.ref m)) (RZ.nextOf_tuple_end (s := { s with heap := g2 }) calm ((Y.it2.extBut b1.extBut D.i2z).extBut b2.extBut D.i12.symm) ((Y.src2.extBut b1.extBut D.l2z).extBut b2.extBut D.l2i1) ey fun g3 e b3 he => ?_))))
    exact fin g3 e (fun c o n1 n2 n3 x => b3 _ _ n3 (b2.extBut _ _ n2 (b1.extBut _ _ n1 x))) he
end
end Zt
namespace Zt
open PySem PySem.Spec PyProof.Rows L2
section
variable {P : Program} {w : World} {A : Around} {E : Value → Shared → Prop} {s : Shared} {z a b j m t u T : Addr} {f : Bool} {oT : Obj} {p q : Nat} {xs ys : Array Value}
theorem next_item {x y : Value} {Q : Option Value → Shared → Prop} (D : ZipApart z a b j m t u) (hz : IsZipHeld s.heap z a b T f) (out : s.heap.get? T = some oT) (Y : Two s.heap a j m t u p q xs ys) (hx : xs[p]? = some x) (hy : ys[q]? = some y)
    (fin : ∀ g, IsZipHeld g z a b T true → g.IsTupleIter j t (p + 1) → g.IsTupleIter m u (q + 1) → IsPair g s.heap.objs.size x y → g.objs.size = s.heap.objs.size + 1 → (∀ c o, c ≠ z → c ≠ j → c ≠ m → s.heap.get? c = some o → g.get? c = some o) → Q (some (.ref s.heap.objs.size)) { s with heap := g }) :
    wpAny (model P w) A (pyNext (.ref z)) Q E s := by
  have isz : s.TypeIs (.ref z) "zip" := ⟨_, hz, rfl⟩
  unfold pyNext
  exact wpAny_bind (wpAny_attempt (wpAny_callSpecial?_slot (name := Str.ofString "__next__") isz F.slot_zip_next (wpAny_call_entry F.slot_zip_next isz F.entry_zip_next (held_item D hz out Y hx hy fun g a1 a2 a3 a4 a5 a6 => wpAny_pure (fin g a1 a2 a3 a4 a5 a6)) (F.args_zip_next_1 _))))
theorem next_end {Q : Option Value → Shared → Prop} (calm : A.handled = none) (D : ZipApart z a b j m t u) (hz : IsZipHeld s.heap z a b T f) (out : s.heap.get? T = some oT) (Y : Two s.heap a j m t u p q xs ys) (hx : xs[p]? = none ∨ ys[q]? = none)
    (fin : ∀ g, (∀ c o, c ≠ z → c ≠ j → c ≠ m → s.heap.get? c = some o → g.get? c = some o) → Q none { s with heap := g }) : wpAny (model P w) A (pyNext (.ref z)) Q E s := by
  have isz : s.TypeIs (.ref z) "zip" := ⟨_, hz, rfl⟩
  unfold pyNext
  refine wpAny_bind (wpAny_attempt (wpAny_callSpecial?_slot (name := Str.ofString "__next__") isz F.slot_zip_next (wpAny_call_entry F.slot_zip_next isz F.entry_zip_next (held_end calm D hz out Y hx fun g e kp ⟨o, ho, hc⟩ => ?_) (F.args_zip_next_1 _))))
  exact wpAny_bind (wpAny_isInstance (T := "StopIteration") (b := true) ⟨o, ho, hc⟩ isSubtype_stop (wpAny_pure (fin _ kp)))
/-- a zip of two tuples, as what dict asks -/
theorem arg (D : ZipApart z a b j m t u) (xs ys : Array Value) : PairArg P w "zip" z [z, a, b, j, m, t, u] [z, b, j, m] (min xs.size ys.size) (fun i k v => xs[i]? = some k ∧ ys[i]? = some v)
    (fun h => IsZip h z a b .none ∧ (∃ c d, IsPair h b c d) ∧ Two h a j m t u 0 0 xs ys) := by
  refine ⟨fun s ok => ⟨_, ok.1, rfl⟩, by decide, fun h g ok k => ?_, fun h ok c hc => ?_, fun c hc => ?_, fun A s Q E calm ok fin => getAttrOr_miss_zip ok.1 rfl rfl rfl zip_no_keys (by decide +kernel) calm fin, fun A s d Q E calm ok dl dout fin => ?_⟩
  · obtain ⟨h1, ⟨c, d, h2⟩, Y⟩ := ok
    exact ⟨k _ _ h1, ⟨c, d, k _ _ h2⟩, Y.stay fun c o _ e => k c o e⟩
  · obtain ⟨h1, ⟨c1, c2, h2⟩, ⟨h3, ⟨o4, h4, _⟩, ⟨o5, h5, _⟩, ⟨o6, h6, _⟩, ⟨o7, h7, _⟩⟩⟩ := ok
    simp only [List.mem_cons, List.not_mem_nil, or_false] at hc
    rcases hc with e | e | e | e | e | e | e <;> subst e
    · exact ⟨_, h1⟩
    · exact ⟨_, h3⟩
    · exact ⟨_, h2⟩
    · exact ⟨_, h4⟩
    · exact ⟨_, h5⟩
    · exact ⟨_, h6⟩
    · exact ⟨_, h7⟩
  · simp only [List.mem_cons, List.not_mem_nil, or_false] at hc ⊢
    rcases hc with e | e | e | e <;> simp [e]
  · obtain ⟨h1, ⟨c1, c2, h2⟩, Y⟩ := ok
    have ne : ∀ c ∈ [z, a, b, j, m, t, u], c ≠ d := fun c hc e => dout (e ▸ hc)
    have nz := ne z (by simp)
    have nb := ne b (by simp)
    have nj := ne j (by simp)
    have nm := ne m (by simp)
    refine wpAny_pyIter_zip h1 (fin z [z, b, j, m] (fun i h => Two h a j m t u i i xs ys ∧ ((IsZip h z a b .none ∧ ∃ c d, IsPair h b c d) ∨ ∃ T f oT, IsZipHeld h z a b T f ∧ h.get? T = some oT ∧ T ≠ z ∧ T ≠ j ∧ T ≠ m ∧ T ≠ d)) s.heap s.toks ?_ ⟨Y, .inl ⟨h1, c1, c2, h2⟩⟩ (fun _ _ e => e) fun c hc => .inl hc)
    refine { off := ?_, frame := ?_, item := ?_, done := ?_ }
    · intro hm
      simp only [List.mem_cons, List.not_mem_nil, or_false] at hm
      rcases hm with e | e | e | e
      · exact nz e.symm
      · exact nb e.symm
      · exact nj e.symm
      · exact nm e.symm
    · rintro i h g ⟨Y, hz⟩ k
      refine ⟨Y.stay fun c o hc e => k c o ?_ e, ?_⟩
      · rcases hc with e | e | e | e | e <;> subst e <;> exact ne _ (by simp)
      · rcases hz with ⟨h1, c, e, h2⟩ | ⟨T, f, oT, h1, h2, r1, r2, r3, r4⟩
        · exact .inl ⟨k _ _ nz h1, c, e, k _ _ nb h2⟩
        · exact .inr ⟨T, f, oT, k _ _ nz h1, k _ _ r4 h2, r1, r2, r3, r4⟩
    · rintro i s1 Q1 E1 il ⟨Y, hz⟩ dl1 go
      have ex := Array.getElem?_eq_getElem (xs := xs) (i := i) (Nat.lt_of_lt_of_le il (Nat.min_le_left ..))
      have ey := Array.getElem?_eq_getElem (xs := ys) (i := i) (Nat.lt_of_lt_of_le il (Nat.min_le_right ..))
      have far : ∀ {c o}, s1.heap.get? c = some o → s1.heap.objs.size ≠ c := fun e => Nat.ne_of_gt (Heap.lt_size e)
      have fj : s1.heap.objs.size ≠ j := let ⟨_, e, _⟩ := Y.it1; far e
      have fm : s1.heap.objs.size ≠ m := let ⟨_, e, _⟩ := Y.it2; far e
      have off : ∀ {c : Addr}, c ∉ [z, b, j, m] → c ≠ z ∧ c ≠ b ∧ c ≠ j ∧ c ≠ m := fun hc => by
        simp only [List.mem_cons, List.not_mem_nil, or_false, not_or] at hc
        exact hc
      rcases hz with ⟨h1, c, e, h2⟩ | ⟨T, f, oT, h1, h2, r1, r2, r3, r4⟩
      · refine RZ.pyNext_zipT_item D h1 Y.pr h2 Y.it1 Y.it2 Y.src1 Y.src2 ex ey fun g a1 a2 a3 a4 a5 a6 kp => ?_
        exact go s1.heap.objs.size _ _ g s1.toks ⟨ex, ey⟩ (.inl ⟨_, a5, rfl, _, rfl⟩) ⟨Y.moved D kp a3 a4, .inr ⟨_, false, _, a1, a5, far h1, fj, fm, Nat.ne_of_gt dl1⟩⟩ fun c o hc e => kp c o (off hc).1 (off hc).2.1 (off hc).2.2.1 (off hc).2.2.2 e
      · refine next_item D h1 h2 Y ex ey fun g a1 a3 a4 a5 a6 kp => ?_
        exact go s1.heap.objs.size _ _ g s1.toks ⟨ex, ey⟩ (.inl ⟨_, a5, rfl, _, rfl⟩) ⟨Y.moved D (fun c o n1 _ n3 n4 e => kp c o n1 n3 n4 e) a3 a4, .inr ⟨T, true, oT, a1, kp _ _ r1 r2 r3 h2, r1, r2, r3, r4⟩⟩ fun c o hc e => kp c o (off hc).1 (off hc).2.2.1 (off hc).2.2.2 e
    · rintro s1 Q1 E1 ⟨Y, hz⟩ go
      have off : ∀ {c : Addr}, c ∉ [z, b, j, m] → c ≠ z ∧ c ≠ b ∧ c ≠ j ∧ c ≠ m := fun hc => by
        simp only [List.mem_cons, List.not_mem_nil, or_false, not_or] at hc
        exact hc
      have last : xs[min xs.size ys.size]? = none ∨ ys[min xs.size ys.size]? = none := by
        rcases Nat.le_total xs.size ys.size with h | h
        · exact .inl (Array.getElem?_eq_none (by omega))
        · exact .inr (Array.getElem?_eq_none (by omega))
      rcases hz with ⟨h1, c, e, h2⟩ | ⟨T, f, oT, h1, h2, r1, r2, r3, r4⟩
      · exact RZ.pyNext_zipT_end calm D h1 Y.pr h2 Y.it1 Y.it2 Y.src1 Y.src2 last fun g kp => go g s1.toks fun c o hc e => kp c o (off hc).1 (off hc).2.1 (off hc).2.2.1 (off hc).2.2.2 e
      · exact next_end calm D h1 h2 Y last fun g kp => go g s1.toks fun c o hc e => kp c o (off hc).1 (off hc).2.2.1 (off hc).2.2.2 e
end
end Zt
namespace Zt
open PySem PySem.Spec PyProof.Rows L2
def tDictZip (K : PySem.W.Frag) (ta : TA) : TE := fun σ H Q => ta σ H fun vs H1 => ∃ (a b : Addr) (ks : List Key) (xs : List V), vs = [.ref a, .ref b] ∧ SqT K H1 a (ks.map kV) ∧ SqT K H1 b xs ∧ ks.length = xs.length ∧ ∀ p, H1 p = none → Q (.ref p) (upd H1 p (.dK (mergeK [] (ks.zip xs))))
theorem zip_kv : ∀ {ks : List Key} {xs : List V} {us vs : List Value} (_ : Vals (ks.map kV) us) (_ : Vals xs vs), KV (ks.zip xs) (ks.zip vs)
  | [], _, _, _, .nil, _ => .nil
  | k :: ks, [], _, _, .cons _ _, .nil => .nil
  | k :: ks, x :: xs, _, _, .cons _ t, .cons r t2 => .cons ⟨rfl, r⟩ (zip_kv t t2)
theorem zip_at {X : Cx} : ∀ {ks : List Key} {us vs : List Value} (_ : Vals (ks.map kV) us) (i : Nat) (k v : Value), us[i]? = some k → vs[i]? = some v → ∃ j, (ks.zip vs)[i]? = some (j, v) ∧ (mixKind X.prog X.w).is j k = true
  | [], _, _, .nil, i, k, v, e, _ => by simp at e
  | _ :: _, _, [], .cons _ _, i, k, v, _, e => by simp at e
  | j :: ks, _, v0 :: vs, .cons r t, 0, k, v, e, e2 => by
    cases e
    cases e2
    exact ⟨j, rfl, kV_is r⟩
  | j :: ks, _, v0 :: vs, .cons r t, i + 1, k, v, e, e2 => by
    obtain ⟨j', h1, h2⟩ := zip_at (X := X) t i k v (by simpa using e) (by simpa using e2)
    exact ⟨j', by simpa using h1, h2⟩
section
variable {X : Cx}
theorem pe_dictZip {e e2 : Expr} {ta : TA} {p p2 q pos : Pos} (hg : Gl X "dict") (hm : X.mg "dict" = none) (hv : bootBuiltins "dict" = some (.type "dict")) (hg2 : Gl X "zip") (hm2 : X.mg "zip" = none) (ha : PA X [e, e2] ta) (hc : X.calm = true := by rfl)
    (hs : starEach [e, e2] X.env = (false, eval e X.env) :: starEach [e2] X.env := by rfl) (hpl : (backTo q (starEach [e2] X.env)).any (·.1) = false := by rfl)
    (na : starEach [.Call (.Name "zip" p2) [e, e2] [] q] X.env = (false, eval (.Call (.Name "zip" p2) [e, e2] [] q) X.env) :: starEach [] X.env := by rfl) :
    PE X (.Call (.Name "dict" p) [.Call (.Name "zip" p2) [e, e2] [] q] [] pos) (tDictZip X.K ta) := by
  refine ⟨fun pins s σ H Q I h => ?_⟩
  refine Call_ (ld_blt I hg hm hv (PyProof.Rows.callWith_type1 (PyProof.Rows.args_cons (Call_ (ld_blt I hg2 hm2 PyProof.Rows.boot_zip (PyProof.Rows.callWith_type1 (thn (ha.run q pins s σ H _ I h) fun us s1 ⟨vs, H1, I1, r1, a, b, ks, xs, ev, hqa, hqb, len, fin⟩ => ?_) hs hpl))) na) na rfl))
  subst ev
  cases r1 with
  | cons r rr =>
    cases rr with
    | cons r' rr =>
      cases rr
      cases r
      cases r'
      obtain ⟨its, rv, pa, hz⟩ := I1.tuple hqa
      obtain ⟨its2, rv2, pb, hz2⟩ := I1.tuple hqb
      obtain ⟨o1, g1, _⟩ := id pa
      obtain ⟨o2, g2, _⟩ := id pb
      have pa' : s1.heap.IsTuple a its.toArray := pa
      have pb' : s1.heap.IsTuple b its2.toArray := pb
      refine RZ.call_zipT pa' pb' fun hp z1 z2 z3 z4 z5 sz kp => PyProof.Rows.args_nil ?_
      have D := PySem.W.ktu_apart s1.heap.objs.size a b (Heap.lt_size g1) (Heap.lt_size g2)
      have l1 := rv.length
      have l2 := rv2.length
      rw [List.length_map] at l1
      have n1 : min its.toArray.size its2.toArray.size = (ks.zip its2).length := by
        rw [List.size_toArray, List.size_toArray, List.length_zip, ← l1]
      refine PySem.call_dict_pairs (s := { s1 with heap := hp }) (knd := mixKind X.prog X.w) (kvs := ks.zip its2) (arg D its.toArray its2.toArray) (I1.ok.hd hc) ⟨z1, ⟨_, _, z3⟩, z2, z4, z5, pa'.at fun o e => kp _ o e, pb'.at fun o e => kp _ o e⟩ ⟨n1.symm, fun i k v ⟨e1, e2⟩ => zip_at (X := X) rv i k v (by simpa using e1) (by simpa using e2)⟩ (by rw [n1, List.length_zip]; omega) fun h2 tk hd kp2 => ?_
      have far : ∀ c o, s1.heap.get? c = some o → h2.get? c = some o := fun c o e => by
        have lt := Heap.lt_size e
        refine kp2 c o (fun hm => ?_) (kp c o e)
        simp only [List.mem_cons, List.not_mem_nil, or_false] at hm
        rcases hm with e | e | e | e <;> rw [e] at lt
        · exact absurd lt (Nat.not_lt.mpr (Nat.le_add_right _ _))
        · exact absurd lt (Nat.not_lt.mpr (Nat.le_add_right _ _))
        · exact Nat.lt_irrefl _ lt
        · exact absurd lt (Nat.not_lt.mpr (Nat.le_add_right _ _))
      have low : ((s1.heap.objs.size + 5) == sysModules) = false := beq_eq_false_iff_ne.mpr (Nat.ne_of_gt (Nat.lt_of_lt_of_le I1.big (Nat.le_add_right _ _)))
      have few : (mergeK [] (ks.zip xs)).length ≤ sizeLine := by
        refine Nat.le_trans (length_mergeK (ks.zip xs) []) ?_
        rw [List.length_nil, Nat.zero_add, List.length_zip]
        omega
      have e5 : ({ s1 with heap := hp } : Shared).heap.objs.size = s1.heap.objs.size + 5 := sz
      rw [e5] at hd ⊢
      exact ⟨.ref (s1.heap.objs.size + 5), _, I1.laid (t' := tk) far (Nat.le_add_right _ _) (show ObjOk X.prog X.w _ _ _ (.dK (mergeK [] (ks.zip xs))) from ⟨few, low, merged [] (ks.zip its2), KV.merge (zip_kv rv rv2) .nil, hd⟩), rfl, fin _ (I1.hok.fresh (Nat.le_add_right _ _))⟩
end
end Zt

set_option Elab.async false
set_option linter.all false
set_option maxRecDepth 100000
set_option maxHeartbeats 1000000
namespace Zw
open PySem PySem.Spec PyProof.Rows L2
/-! a walk over zip(t, u) of two tuples -/
section
variable {K : PySem.W.Frag} {a b : Addr} {xs ys : List V}
theorem walk_zt {n : Nat} (hn : n = min xs.length ys.length) : Walk (RZ.ItzT K a b) n (fun G => SqT K G a xs ∧ SqT K G b ys) (YPair (fun i => xs[i]?) (fun i => ys[i]?)) := by
  subst hn
  constructor
  · intro i G hi q
    have h1 : i < xs.length := Nat.lt_of_lt_of_le hi (Nat.min_le_left ..)
    have h2 : i < ys.length := Nat.lt_of_lt_of_le hi (Nat.min_le_right ..)
    exact ⟨xs, ys, xs[i], ys[i], q.1, q.2, by simp [h1], by simp [h2]⟩
  · intro G q
    exact ⟨xs, ys, q.1, q.2, by omega⟩
  · intro i G v G' _ q y
    obtain ⟨T, x, z, h1, h2, h3, h4, h5⟩ := y
    exact ⟨T, x, z, h1, h2, h3, h4 xs q.1, h5 ys q.2⟩
end
end Zw

set_option Elab.async false
set_option linter.all false
set_option maxRecDepth 100000
set_option maxHeartbeats 4000000
namespace Iw
open PySem PySem.Spec PyProof.Rows L2 PySem.SeqAt
/-! any plain value in a list or a tuple of texts -/
section
variable {A : Around} {s : Shared}
theorem str_no {z : Str} {u : Tok} {d : Addr} {es : Array DictEntry} {ep : Nat} {dd : Option Addr} {sl : Array (Option Value)} : Meets (Builtin.«str.__eq__» ⟨[.str z u, .ref d], []⟩) (fun _ R s => s.heap.get? d = some ⟨.type "dict", dd, .dict es ep, sl⟩ ∧ R (.ok (.ret .notImplemented)) s) :=
  .of_wp fun prog w A R s h => by
    obtain ⟨hp, g, dr, tk, os⟩ := s
    obtain ⟨there, h⟩ := h
    have no := F.sub_dict_str
    wp_walk using wpAny_loadPart' there, wpAny_load there
    exact ⟨_, rfl, h⟩
theorem dict_no {z : Str} {u : Tok} {d : Addr} {es : Array DictEntry} {ep : Nat} {dd : Option Addr} {sl : Array (Option Value)} : Meets (Builtin.«dict.__eq__» ⟨[.ref d, .str z u], []⟩) (fun _ R s => s.heap.get? d = some ⟨.type "dict", dd, .dict es ep, sl⟩ ∧ R (.ok (.ret .notImplemented)) s) :=
  .of_wp fun prog w A R s h => by
    obtain ⟨hp, g, dr, tk, os⟩ := s
    obtain ⟨there, h⟩ := h
    have no := F.sub_str_dict
    wp_walk using wpAny_loadPart' there, wpAny_load there
    exact ⟨_, rfl, h⟩
theorem str_dict {z : Str} {u : Tok} {d : Addr} {es : Array DictEntry} {ep : Nat} {dd : Option Addr} {sl : Array (Option Value)} (there : s.heap.get? d = some ⟨.type "dict", dd, .dict es ep, sl⟩) (room : A.units < cLine) : EqAt A s (.str z u) (.ref d) false := fun prog w E Q h => by
  unfold eqBool
  refine wpAny_holding (wpAny_ite_split (fun e => absurd (eq_of_beq e) nofun) fun _ => wpAny_bind ?_)
  exact rc_eq_decline_or (k := false) (typeIs_str s z u) ⟨_, there, rfl⟩ (by decide) F.sub_dict_str F.slot_str_eq F.slot_dict_eq_refl
    (fun _ q => call_meets F.slot_str_eq (typeIs_str s z u) F.entry_str_eq (F.args_str_eq_2 _ _) str_no ⟨there, q⟩)
    (fun _ q => call_meets F.slot_dict_eq_refl ⟨_, there, rfl⟩ F.entry_dict_eq (F.args_dict_eq_2 _ _) dict_no ⟨there, q⟩)
    (fun _ q => wpAny_of_eq (rfl : isSame (.str z u) (.ref d) = pure false) q) (.inr room) (wpAny_truthy_bool h)
end
end Iw
namespace Iw
open PySem PySem.Spec PyProof.Rows L2 PySem.SeqAt
section
variable {X : Cx}
/-- a list, a tuple, a dict -/
inductive Box (H : Hp) (a : Addr) : Prop where
  | lst {xs : List V} (h : H a = some (.lst xs)) : Box H a
  | tup {xs : List V} (h : H a = some (.tup xs)) : Box H a
  | dic {kvs : List (Key × V)} (h : H a = some (.dK kvs)) : Box H a
def rInW (K : PySem.W.Frag) (neg : Bool) : R2 := fun x y H Q => ∃ (p : Addr) (ts : List Str), y = .ref p ∧ (SqL K H p (ts.map V.str) ∨ SqT K H p (ts.map V.str)) ∧
  ((flatV x = true ∧ Q (.bl (if neg then !inV x (ts.map V.str) else inV x (ts.map V.str))) H) ∨ (∃ a, x = .ref a ∧ Box H a ∧ Q (.bl neg) H))
theorem box_eq {pins : List (Addr × Obj)} {σ : L2.St} {H : Hp} {s : Shared} (I : Inv X pins σ H s) {B : Around} (room : B.units < cLine) {a : Addr} (b : Box H a) (z : Str) (u : Tok) : EqAt B s (.str z u) (.ref a) false := by
  cases b with
  | lst h =>
    obtain ⟨its, rv, pl, hz⟩ := I.list (SqL.of h)
    exact EqAt.str_list z u pl.isList room
  | tup h =>
    obtain ⟨its, rv, pt, hz⟩ := I.tuple (SqT.of h)
    exact EqAt.str_tuple z u pt room
  | dic h =>
    obtain ⟨hz, hs0, vs, kv, o, es, ep, there, ex, da, _⟩ := I.hok a _ h
    obtain ⟨c, dd, d0, sl⟩ := o
    obtain ⟨e1, e2, e3⟩ := ex
    simp only at e1 da
    subst e1 da
    exact str_dict there room
theorem texts_no {pins : List (Addr × Obj)} {σ : L2.St} {H : Hp} {s : Shared} (I : Inv X pins σ H s) {B : Around} (room : B.units < cLine) {a : Addr} (b : Box H a) : ∀ {ts : List Str} {us : List Value}, Vals (ts.map V.str) us → ∀ v ∈ us, EqAt B s v (.ref a) ((fun _ => false) v)
  | [], _, .nil => fun v hv => by cases hv
  | z :: ts, u :: us, .cons r t => fun v hv => by
    rcases List.mem_cons.mp hv with rfl | hv
    · obtain ⟨k, rfl⟩ := r
      exact box_eq I room b z k
    · exact texts_no I room b t v hv
theorem op_inW (hu : X.A.units + 64 < cLine) : OpR X (compareOp .In) (rInW X.K false) := by
  intro pins s σ H x y v u Q I rx ry ⟨p, ts, e, hq, h⟩
  rcases h with ⟨fx, q⟩ | ⟨a, rfl, b, q⟩
  · exact op_in_seq pins s σ H x y v u Q I rx ry ⟨p, _, e, hq, fx, Lw.flat_strs ts, q⟩
  · subst e
    cases ry
    cases rx
    rcases hq with hq | hq
    · obtain ⟨its, r, pl, hz⟩ := I.list hq
      refine SeqAt.in_listAt (fun _ => false) pl.isList (fun w hw => texts_no I (by show X.A.units + 1 < cLine; omega) b r w (by simpa using hw)) ⟨.bl _, H, I, rfl, ?_⟩
      rw [show its.toArray.any (fun _ => false) = false by simp]
      exact q
    · obtain ⟨its, r, pl, hz⟩ := I.tuple hq
      refine SeqAt.in_tupleAt (fun _ => false) pl (fun w hw => texts_no I (by show X.A.units + 1 < cLine; omega) b r w (by simpa using hw)) ⟨.bl _, H, I, rfl, ?_⟩
      rw [show its.toArray.any (fun _ => false) = false by simp]
      exact q
theorem op_notInW (hu : X.A.units + 64 < cLine) : OpR X (compareOp .NotIn) (rInW X.K true) := by
  intro pins s σ H x y v u Q I rx ry ⟨p, ts, e, hq, h⟩
  rcases h with ⟨fx, q⟩ | ⟨a, rfl, b, q⟩
  · exact op_notIn_seq pins s σ H x y v u Q I rx ry ⟨p, _, e, hq, fx, Lw.flat_strs ts, q⟩
  · subst e
    cases ry
    cases rx
    rcases hq with hq | hq
    · obtain ⟨its, r, pl, hz⟩ := I.list hq
      refine SeqAt.notIn_listAt (fun _ => false) pl.isList (fun w hw => texts_no I (by show X.A.units + 1 < cLine; omega) b r w (by simpa using hw)) ⟨.bl _, H, I, rfl, ?_⟩
      rw [show its.toArray.any (fun _ => false) = false by simp]
      exact q
    · obtain ⟨its, r, pl, hz⟩ := I.tuple hq
      refine SeqAt.notIn_tupleAt (fun _ => false) pl (fun w hw => texts_no I (by show X.A.units + 1 < cLine; omega) b r w (by simpa using hw)) ⟨.bl _, H, I, rfl, ?_⟩
      rw [show its.toArray.any (fun _ => false) = false by simp]
      exact q
end
end Iw

set_option Elab.async false
set_option linter.all false
set_option maxRecDepth 100000
set_option maxHeartbeats 1000000
namespace St
open PySem PySem.Spec PyProof.Rows L2
/-! sets of keys of any kind, whose table can be walked -/
section
variable {κ : Type} [DecidableEq κ] {P : Program} {w : World}
def OneEach (knd : KeyKind P w κ) (l : List (Int × Value)) : Prop := l.Pairwise fun x y => ∀ k, knd.is k x.2 = true → knd.is k y.2 = true → False
def Laid (w : World) (tb : SetTable) : Prop := Ris tb.place.toList ∧ (w.params.followText "set-order" = true ∨ tb.led = true)
/-- what stands in a set's table -/
structure Tbl (knd : KeyKind P w κ) (S : κ → Bool) (xs : Array (Int × Value)) (tb : SetTable) : Prop where
  el : ElemsOf knd xs.toList
  one : OneEach knd xs.toList
  mem : ∀ k, S k = true ↔ ∃ e ∈ xs.toList, knd.is k e.2 = true
  low : xs.size < scanBound
  fit : tb.fits xs.size = true
  lay : Laid w tb
def SetS (knd : KeyKind P w κ) (hp : Heap) (a : Addr) (S : κ → Bool) (n : Nat) : Prop := ∃ ob xs np tb, hp.get? a = some ob ∧ ob.ExactSet ∧ ob.data = .set xs np tb ∧ xs.size = n ∧ Tbl knd S xs tb
theorem SetS.stay {knd : KeyKind P w κ} {hp hq : Heap} {a : Addr} {S : κ → Bool} {n : Nat} (Y : SetS knd hp a S n) (k : ∀ u, hp.get? a = some u → hq.get? a = some u) : SetS knd hq a S n := by
  obtain ⟨ob, xs, np, tb, y1, y2⟩ := Y
  exact ⟨ob, xs, np, tb, k _ y1, y2⟩
theorem SetS.of {knd : KeyKind P w κ} {hp : Heap} {a : Addr} {S : κ → Bool} {n : Nat} (Y : SetS knd hp a S n) : hp.SetOf knd a S n := by
  obtain ⟨ob, xs, np, tb, y1, y2, y3, y4, T⟩ := Y
  exact ⟨ob, xs, np, tb, y1, y2, y3, T.el, T.mem, T.low, T.fit, y4⟩
theorem OneEach.perm {knd : KeyKind P w κ} {l m : List (Int × Value)} (p : l.Perm m) (h : OneEach knd l) : OneEach knd m :=
  (p.pairwise_iff fun q k u v => q k v u).mp h
/-- the same entries in another table -/
theorem Tbl.turn {knd : KeyKind P w κ} {S : κ → Bool} {xs ys : Array (Int × Value)} {tb tc : SetTable} (T : Tbl knd S xs tb) (p : ys.toList.Perm xs.toList) (f : tc.fits ys.size = true) (l : Laid w tc) : Tbl knd S ys tc where
  el := fun e m => T.el e (p.mem_iff.mp m)
  one := T.one.perm p.symm
  mem := fun k => (T.mem k).trans ⟨fun ⟨e, m, q⟩ => ⟨e, p.mem_iff.mpr m, q⟩, fun ⟨e, m, q⟩ => ⟨e, p.mem_iff.mp m, q⟩⟩
  low := by
    have e : ys.size = xs.size := by rw [← Array.length_toList, ← Array.length_toList]; exact p.length_eq
    rw [e]
    exact T.low
  fit := f
  lay := l
/-- one entry more -/
theorem Tbl.more {knd : KeyKind P w κ} {S : κ → Bool} {xs ys : Array (Int × Value)} {tb tc : SetTable} {k : κ} {v : Value} (T : Tbl knd S xs tb) (hk : knd.is k v = true) (hv : v.scannable = true) (n : S k = false) (p : ys.toList.Perm ((knd.hash k, v) :: xs.toList)) (room : xs.size + 1 < scanBound) (f : tc.fits ys.size = true) (l : Laid w tc) :
    Tbl knd (fun j => S j || decide (j = k)) ys tc := by
  have isk : ∀ j, knd.is j v = true ↔ j = k := fun j => ⟨fun q => knd.inj v j k q hk, fun q => q ▸ hk⟩
  have sz : ys.size = xs.size + 1 := by rw [← Array.length_toList, p.length_eq, List.length_cons, Array.length_toList]
  refine ⟨fun e m => ?_, OneEach.perm p.symm (List.pairwise_cons.mpr ⟨fun e m j q r => ?_, T.one⟩), fun j => ?_, by rw [sz]; exact room, f, l⟩
  · rcases List.mem_cons.mp (p.mem_iff.mp m) with rfl | m
    · exact ⟨⟨k, hk, rfl⟩, hv⟩
    · exact T.el e m
  · have e1 := (isk j).mp q
    subst e1
    have z := (T.mem j).mpr ⟨e, m, r⟩
    rw [n] at z
    cases z
  · rw [Bool.or_eq_true, decide_eq_true_eq, T.mem j]
    constructor
    · rintro (⟨e, m, q⟩ | q)
      · exact ⟨e, p.mem_iff.mpr (List.mem_cons_of_mem _ m), q⟩
      · exact ⟨_, p.mem_iff.mpr List.mem_cons_self, (isk j).mpr q⟩
    · rintro ⟨e, m, q⟩
      rcases List.mem_cons.mp (p.mem_iff.mp m) with rfl | m
      · exact .inr ((isk j).mp q)
      · exact .inl ⟨e, m, q⟩
end
end St

set_option Elab.async false
set_option linter.all false
set_option maxRecDepth 100000
set_option maxHeartbeats 2000000
namespace St
open PySem PySem.Spec PyProof.Rows L2
/-! set.add, of a key of any kind -/
section
variable {κ : Type} [DecidableEq κ] {P : Program} {w : World} {A : Around} {Ex : Value → Shared → Prop} {s : Shared} {a : Addr} {knd : KeyKind P w κ}
theorem stored {hp : Heap} {ob : Obj} {xs ys : Array (Int × Value)} {np : Nat} {tb tc : SetTable} (e1 : hp.get? a = some ob) (e2 : ob.data = .set xs np tb) : (hp.update a (Obj.putSet ys tc)).get? a = some { ob with data := .set ys (np + 1) tc } := store_at e1 e2
/-- the entries are stored, and perhaps laid anew in a greater table -/
theorem put_tail {gave : Bool → Sem Unit} (hg : ∀ (b : Bool) (q : Shared) (R : Unit → Shared → Prop), R () q → wpAny (model P w) A (gave b) R Ex q) {ob : Obj} {xs ys : Array (Int × Value)} {np : Nat} {tb tc : SetTable} {S : κ → Bool} (e1 : s.heap.get? a = some ob) (ex : ob.ExactSet) (e2 : ob.data = .set xs np tb)
    (T : Tbl knd S ys tc) {was : Bool} {R : Option Bool → Shared → Prop} (hR : ∀ hq, Heap.SameBut a s.heap hq → SetS knd hq a S ys.size → R (some true) { s with heap := hq }) :
    wpAny (model P w) A (do
        storeSet a ys tc
        if (!was && tc.tooFull) = true then do
            gave (relayAll tc ys (SetTable.grown ys.size)).2.2
            storeSet a (relayAll tc ys (SetTable.grown ys.size)).1 (relayAll tc ys (SetTable.grown ys.size)).2.1
            pure (some true)
          else pure (some true)) R Ex s := by
  have f1 := stored (ys := ys) (tc := tc) e1 e2
  have b1 := Heap.SameBut.update s.heap a (Obj.putSet ys tc)
  refine wpAny_bind (wpAny_storeSet_of e1 e2 ?_ (fits_of_scanBound T.low))
  split
  · have p := relayAll_perm tc ys (SetTable.grown ys.size)
    have f := relayAll_fits tc ys (SetTable.grown ys.size)
    have r := relayAll_ris tc ys (SetTable.grown ys.size)
    have l := relayAll_led tc ys (SetTable.grown ys.size)
    generalize relayAll tc ys (SetTable.grown ys.size) = Z at p f r l ⊢
    obtain ⟨zs, td, gv⟩ := Z
    dsimp only at p f r l ⊢
    have sz : zs.size = ys.size := by rw [← Array.length_toList, ← Array.length_toList]; exact p.length_eq
    have T2 : Tbl knd S zs td := T.turn p f ⟨r, T.lay.2.imp id fun q => l.trans q⟩
    refine wpAny_bind (hg _ _ _ (wpAny_bind (wpAny_storeSet_of f1 rfl (wpAny_pure (hR _ (b1.trans (Heap.SameBut.update _ a _)) ?_)) (fits_of_scanBound T2.low))))
    exact ⟨_, zs, _, td, stored (ys := zs) (tc := td) f1 rfl, ex, rfl, sz, T2⟩
  · exact wpAny_pure (hR _ b1 ⟨_, ys, _, tc, f1, ex, rfl, rfl, T⟩)
theorem add_hashed {k : κ} {v : Value} {S : κ → Bool} {n : Nat} {Q : Bool → Shared → Prop} (Y : SetS knd s.heap a S n) (hk : knd.is k v = true) (hv : v.scannable = true) (room : n + 1 < scanBound)
    (hQ : ∀ hq, Heap.SameBut a s.heap hq → SetS knd hq a (fun j => S j || decide (j = k)) (if S k = true then n else n + 1) → Q (!S k) { s with heap := hq }) : wpAny (model P w) A (setAddHashed a v (knd.hash k)) Q Ex s := by
  obtain ⟨ob, xs, np, tb, e1, ex, e2, en, T⟩ := Y
  unfold setAddHashed setAddHashedIn
  refine wpAny_holding (wpAny_bind (wpAny_setState_of e1 e2 T.fit ?_))
  dsimp only
  rw [byScan_of hv T.low T.el]
  simp only [↓reduceIte]
  unfold setAddByScan
  refine wpAny_bind (wpAny_bind (wpAny_rule (wpAny_bind (wpAny_setScan_of hk e1 e2 T.fit T.el ?_))))
  have isk : ∀ j, knd.is j v = true ↔ j = k := fun j => ⟨fun q => knd.inj v j k q hk, fun q => q ▸ hk⟩
  cases hf : List.findIdx? (fun e => knd.is k e.2) xs.toList with
  | some i =>
    obtain ⟨hi, pi, _⟩ := List.findIdx?_eq_some_iff_getElem.mp hf
    have yes : S k = true := (T.mem k).mpr ⟨xs.toList[i], List.getElem_mem hi, pi⟩
    have q := hQ s.heap (Heap.SameBut.refl a s.heap)
    rw [if_pos yes, yes] at q
    refine wpAny_pure (wpAny_pure (q ⟨ob, xs, np, tb, e1, ex, e2, en, T.el, T.one, fun j => ?_, T.low, T.fit, T.lay⟩))
    rw [Bool.or_eq_true, decide_eq_true_eq, ← T.mem j]
    exact ⟨fun z => z.elim id fun z => z ▸ yes, .inl⟩
  | none =>
    have no : S k = false := by
      cases z : S k with
      | false => rfl
      | true =>
        obtain ⟨e, m, q⟩ := (T.mem k).mp z
        have c := List.findIdx?_eq_none_iff.mp hf e m
        rw [q] at c
        cases c
    have gaveWay : ∀ (b : Bool) {q : Shared} {R : Unit → Shared → Prop}, R () q → wpAny (model P w) A (match b with | true => rule "set.scan.the-table-gave-way" | false => pure ()) R Ex q := fun b q R z => by
      cases b
      · exact wpAny_pure z
      · exact wpAny_rule z
    dsimp only
    have p := layNew_perm tb xs (knd.hash k) v
    have f := layNew_fits tb xs (knd.hash k) v
    have r := layNew_ris tb xs (knd.hash k) v T.lay.1
    have l := layNew_led tb xs (knd.hash k) v
    generalize layNew tb xs (knd.hash k) v = Z at p f r l ⊢
    obtain ⟨ys, tc, was, gv⟩ := Z
    dsimp only at p f r l ⊢
    rw [Array.toList_push] at p
    have pc := p.trans (List.perm_append_singleton (knd.hash k, v) xs.toList)
    have sz : ys.size = n + 1 := by rw [← Array.length_toList, pc.length_eq, List.length_cons, Array.length_toList, en]
    have more : ∀ td : SetTable, td.fits ys.size = true → Laid w td → Tbl knd (fun j => S j || decide (j = k)) ys td := fun td hf' hl' => T.more hk hv no pc (by omega) hf' hl'
    have lay : Laid w tc := ⟨r, T.lay.2.imp id fun q => l.trans q⟩
    have fin : ∀ hq, Heap.SameBut a s.heap hq → SetS knd hq a (fun j => S j || decide (j = k)) ys.size → Q true { s with heap := hq } := fun hq b Y => by
      have q := hQ hq b
      rw [no] at q
      rw [sz] at Y
      exact q Y
    refine wpAny_bind (gaveWay _ ?_)
    split
    · rw [hashByValue_scannable 8 hv]
      refine wpAny_bind (wpAny_pure (put_tail ?_ e1 ex e2 (more _ ?_ ?_) fun hq b Y => ?_))
      · intro b q R z
        cases b
        · exact wpAny_pure z
        · exact wpAny_rule z
      · first
          | exact f
          | (split <;> first | exact f | exact SetTable.fits_plain_off f)
      · first
          | exact lay
          | (split <;> exact lay)
      · dsimp only
        exact wpAny_pure (fin hq b Y)
    · refine wpAny_bind (wpAny_pure ?_)
      try simp only [↓reduceIte]
      refine put_tail ?_ e1 ex e2 (more tc f lay) fun hq b Y => ?_
      · intro b q R z
        cases b
        · exact wpAny_pure z
        · exact wpAny_rule z
      · dsimp only
        exact wpAny_pure (fin hq b Y)
end
end St

set_option Elab.async false
set_option linter.all false
set_option maxRecDepth 100000
set_option maxHeartbeats 2000000
namespace St
open PySem PySem.Spec PyProof.Rows L2
/-! such sets, tracked -/
section
variable {κ : Type} [DecidableEq κ] {P : Program} {w : World}
def KO (knd : KeyKind P w κ) (a : Addr) (S : κ → Bool) (n : Nat) : HO := .ext fun hp => SetS knd hp a S n
theorem ko_ok {knd : KeyKind P w κ} {H : Hp} {hp : Heap} {a : Addr} {S : κ → Bool} {n : Nat} (Y : SetS knd hp a S n) : ObjOk P w H hp a (KO knd a S n) :=
  ⟨Y, let ⟨ob, _, _, _, e, _⟩ := Y; ⟨ob, e⟩, fun _ _ y k => SetS.stay y k⟩
theorem empty_set {knd : KeyKind P w κ} {hp : Heap} : SetS knd (hp.push { cls := .type "set", dict := none, data := .set #[] 0 (.fresh 0 0 (!w.params.followText "set-order")) }) hp.objs.size (fun _ => false) 0 := by
  refine ⟨_, #[], 0, _, Heap.get?_push_size _ rfl, ⟨rfl, rfl, rfl⟩, rfl, rfl, ?_, ?_, ?_, by decide, by rfl, List.Pairwise.nil, ?_⟩
  · intro e m
    simp at m
  · exact List.Pairwise.nil
  · intro k
    simp
  · show _ ∨ (!w.params.followText "set-order") = true
    cases w.params.followText "set-order" <;> simp
end
section
variable {X : Cx} {pins : List (Addr × Obj)} {σ : L2.St} {H : Hp} {s : Shared} {κ : Type} [DecidableEq κ] {knd : KeyKind X.prog X.w κ}
theorem ko_at {a : Addr} {S : κ → Bool} {n : Nat} (I : Inv X pins σ H s) (h : H a = some (KO knd a S n)) : SetS knd s.heap a S n := (I.hok a _ h).1
/-- D.add(v) -/
theorem add_ok {E : Value → Shared → Prop} {D : Addr} {S : κ → Bool} {n : Nat} {k : κ} {v : Value} {Q : Value → Shared → Prop} (I : Inv X pins σ H s) (h : H D = some (KO knd D S n)) (hk : knd.is k v = true) (hv : v.scannable = true) (room : n + 1 < scanBound)
    (q : ∀ s', Inv X pins σ (upd H D (KO knd D (fun j => S j || decide (j = k)) (if S k = true then n else n + 1))) s' → Q .none s') : wpAny (model X.prog X.w) X.A (call (.builtin "set.add") [.ref D, v]) Q E s := by
  have Y := ko_at I h
  refine wpAny_call_entry F.slot_set_add (Y.of).typeIs F.entry_set_add ?_ (F.args_set_add_2 _ _)
  unfold Builtin.«set.add»
  unfold Builtin.Frozenset.oneOther Builtin.Frozenset.addrOf
  simp only [List.isEmpty_nil, bind_assoc]
  unfold setAdd
  refine wpAny_bind (wpAny_pure ?_); try dsimp only
  refine wpAny_bind (wpAny_pure (wpAny_bind (wpAny_holding (wpAny_bind (knd.pyHash hk ?_)))))
  refine add_hashed (s := { s with toks := s.toks + 1 }) Y hk hv room fun hq b Z => ?_
  refine wpAny_pure ⟨_, rfl, q _ (I.write (e := D) (t' := s.toks + 1) (by rw [h]; trivial) (.inl rfl) (fun c u nc e => (b.2 c nc).trans e) ?_ (ko_ok Z))⟩
  obtain ⟨ob, _, _, _, e, _⟩ := Z
  exact ⟨ob, e⟩
end
end St

set_option Elab.async false
set_option linter.all false
set_option maxRecDepth 100000
set_option maxHeartbeats 2000000
namespace St
open PySem PySem.Spec PyProof.Rows L2 PpSet
/-! set comprehensions of ints and texts -/
abbrev KS (P : Program) (w : World) (D : Addr) (S : Key → Bool) (n : Nat) : HO := KO (mixKind P w) D S n
abbrev Ks0 (P : Program) (w : World) (G : Hp) (D : Addr) : Hp := upd G D (KS P w D (fun _ => false) 0)
/-- one more key in D -/
def tAdd (P : Program) (w : World) (D : Addr) (Nx : Hp → Prop) : VK := fun y G => ∃ (k : Key) (S : Key → Bool) (n : Nat), y = kV k ∧ G D = some (KS P w D S n) ∧ n + 1 < scanBound ∧ Nx (upd G D (KS P w D (fun j => S j || decide (j = k)) (if S k = true then n else n + 1)))
/-- one turn -/
def tTurn (P : Program) (w : World) (g : TG) (tt : TT) (te : TE) (vs : List Nat) (D : Addr) (σ : L2.St) (Nx : Hp → Prop) (x : V) (G : Hp) : Prop :=
  g x (wipe σ vs) G fun τ G2 => wipe τ vs = wipe σ vs ∧ tt τ G2 fun b G3 => if b = true then te τ G3 (tAdd P w D Nx) else Nx G3
/-- all turns -/
def Turns (J : It) (turn : (Hp → Prop) → V → Hp → Prop) (fin : Hp → Prop) (G0 : Hp) : Prop :=
  ∃ W : Nat → Nat → Hp → Prop, (∃ m, W 0 m G0) ∧ ∀ i m G, W i m G → (J.stop i G ∧ fin G) ∨ (J.go i G ∧ ∃ Nx : Hp → Prop, (∀ G', Nx G' → ∃ k, k < m ∧ W (i + 1) k G') ∧ ∀ x G', J.yld i G x G' → turn Nx x G')
def tSk (P : Program) (w : World) (wi : TI) (g : TG) (tt : TT) (te : TE) (vs : List Nat) : TE := fun σ H Q => wi σ H fun J G => ∀ D, G D = none → Turns J (tTurn P w g tt te vs D σ) (fun F => Q (.ref D) F) (Ks0 P w G D)
section
variable {X : Cx}
abbrev InBlk (X : Cx) (scope : Scope) (Pr : Cx → Prop) : Prop := ∀ (s : Shared) (H : Hp) (C : Addr) (cl : List (PySem.Str × Addr)) (fp : List Addr), Pr (X.blk s H scope (compEnvC scope cl C X.env) fp)
/-- the loop, once the block stands -/
theorem sk_loop {elt tg iter : Expr} {ifs : List Expr} {scope : Scope} {pos : Pos} {g : TG} {tt : TT} {te : TE} {σ : L2.St} {vs : List Nat} {s0 : Shared} {H0 G0 : Hp} {ce : Env} {D it : Addr} {fp : List Addr} {J : It} {tn : Nat → Heap → Prop} {R : Result → Shared → Prop} {fin : Hp → Prop} {t : Shared}
    (hc : X.calm = true) (pg : PG (X.blk s0 H0 scope ce fp) tg g) (pt : PTs (X.blk s0 H0 scope ce fp) ifs tt) (pe : PE (X.blk s0 H0 scope ce fp) elt te) (T : Turn X.prog X.w X.K tg J fp it tn)
    (I0 : Inv (X.blk s0 H0 scope ce fp) [] (wipe σ vs) G0 t) (t0 : tn 0 t.heap) (n0 : ∀ b ∈ fp, G0 b = none) (h : Turns J (tTurn X.prog X.w g tt te vs D σ) fin G0)
    (hend : ∀ G t', Inv (X.blk s0 H0 scope ce fp) [] (wipe σ vs) G t' → fin G → R (.ok .next) t') :
    codeAny (model X.prog X.w) X.A (.compLoop (.SetComp elt [⟨tg, iter, ifs, 0⟩] scope pos) 0 (.ref it) (.ref D) ce) R t := by
  obtain ⟨W, ⟨m0, w0⟩, turn⟩ := h
  have fpo : ∀ {τ : L2.St} {G : Hp} {t' : Shared}, Inv (X.blk s0 H0 scope ce fp) [] τ G t' → (∀ b ∈ fp, G b = none) → ∀ b ∈ fp, FpOk (X.blk s0 H0 scope ce fp) [] G b := by
    intro τ G t' I q b hb
    refine ⟨q b hb, (I.ok.exf b hb).1, I.ok.exfs b hb, .inl hb, (I.ok.exf b hb).2, fun p hp => ?_⟩
    exact absurd (show p ∈ ([] : List (Addr × Obj)) ++ [] from hp) (List.not_mem_nil)
  apply compLoopS_any (fun k u => ∃ j G, tn j u.heap ∧ W j k G ∧ (∀ b ∈ fp, G b = none) ∧ Inv (X.blk s0 H0 scope ce fp) [] (wipe σ vs) G u) _ m0 ⟨0, G0, t0, w0, n0, I0⟩
  rintro k u ⟨j, G, tj, wj, nj, Ij⟩
  obtain ⟨stop, q⟩ | ⟨go, Nx, down, step⟩ := turn j k G wj
  · refine thnF (T.done (X.blk s0 H0 scope ce fp) rfl rfl rfl hc j [] u _ G (fun _ _ => False) Ij (fpo Ij nj) tj stop) ?_
    rintro r u1 ⟨rfl, I1⟩
    exact hend G u1 I1 q
  · refine thnF (T.item (X.blk s0 H0 scope ce fp) rfl rfl rfl hc j [] u _ G (fun _ _ => False) Ij (fpo Ij nj) tj go) ?_
    rintro r u1 ⟨v, rfl, a1⟩
    refine thnF a1 ?_
    rintro _ u2 ⟨x, G1, I1, r1, y1, tj1, nj1⟩
    have I1p := I1.pinned (fpo I1 nj1) (T.obj _ _ tj1)
    refine thnF (pg.run _ u2 _ G1 x v _ I1p r1 (step x G1 y1)) ?_
    rintro _ u3 ⟨τ, G2, I2, ew, a2⟩
    refine thnF (pt.run _ u3 τ G2 _ I2 a2) ?_
    rintro b u4 ⟨G3, I3, a3⟩
    have back : ∀ {u' : Shared} {G' : Hp}, Inv (X.blk s0 H0 scope ce fp) ([] ++ pinsAt fp u2.heap) τ G' u' → Nx G' → ∃ k', k' < k ∧ ∃ j G, tn j u'.heap ∧ W j k' G ∧ (∀ b ∈ fp, G b = none) ∧ Inv (X.blk s0 H0 scope ce fp) [] (wipe σ vs) G u' := by
      intro u' G' I' nx
      obtain ⟨k', lt, wk⟩ := down G' nx
      have pin : ∀ b ∈ fp, ∀ o, u2.heap.get? b = some o → u'.heap.get? b = some o ∧ G' b = none := by
        intro b hb o e
        have z := I'.pin (b, o) (List.mem_append_right _ (List.mem_append_right _ (mem_pinsAt hb e)))
        exact ⟨z.1, z.2.1⟩
      refine ⟨k', lt, j + 1, G', T.keep _ _ _ tj1 (fun b hb o e => (pin b hb o e).1), wk, ?_, ?_⟩
      · intro b hb
        obtain ⟨o, e, _⟩ := T.obj _ _ tj1 b hb
        exact (pin b hb o e).2
      · refine (I'.unpinned (pins := [])).weak (by rw [← ew, wipe_length]) ?_
        intro i x e
        rw [← ew] at e
        exact (wipe_some e).1
    cases b
    · exact back I3 a3
    · refine thnF (pe.run _ u4 τ G3 _ I3 a3) ?_
      rintro z u5 ⟨y, G4, I4, ry, kk, S, n, rfl, hD, room, nx⟩
      exact add_ok (X := X.blk s0 H0 scope ce fp) I4 hD (kV_is ry) (key_scan ry) room fun u6 I6 => back I6 nx
/-- {elt for tg in iter if ...} -/
theorem pe_sk {elt tg iter : Expr} {ifs : List Expr} {scope : Scope} {own : List (PySem.Str × Nat)} {pos : Pos} {wi : TI} {g : TG} {tt : TT} {te : TE} (hc : X.calm = true) (hN : X.N.Nodup) (hi : PI X tg iter wi) (ok : BlkOk X.N X.env.scope scope own)
    (hg : InBlk X scope fun Y => PG Y tg g) (ht : InBlk X scope fun Y => PTs Y ifs tt) (he : InBlk X scope fun Y => PE Y elt te) (hs : ∀ x, foldedSetIterable iter X.env x = pure x := by intro _; rfl) :
    PE X (.SetComp elt [⟨tg, iter, ifs, 0⟩] scope pos) (tSk X.prog X.w wi g tt te (own.map (·.2))) := by
  constructor
  intro pins s σ H Q I h
  rw [eval_SetComp]
  have fr : ∀ y ∈ scope.names, y.2 = .free → ∃ c, X.env.cells.lookup y.1 = some c := by
    intro y hy e
    exact I.ok.has _ (ok.free y hy e)
  refine wpAny_comprehension_free rfl hs (closure_ok fr) ok.kind (fun y hy e => by rw [ok.uniq y hy, e]) (thn (hi.run pins s σ H _ I h) fun xv s1 hx => thn hx ?_)
  rintro itv s2 ⟨it, fp, tn, J, G, rfl, I2, T, st2, f2, q⟩
  refine newSet_ok (newEnv_comp ?_)
  have D0 : G s2.heap.objs.size = none := I2.hok.fresh (Nat.le_refl _)
  have q := q _ D0
  have I3 := I2.laid (t' := s2.toks) (fun b o e => Heap.get?_push_of_some _ e) (Nat.le_refl _) (ko_ok (P := X.prog) (w := X.w) (H := upd G s2.heap.objs.size (KS X.prog X.w s2.heap.objs.size (fun _ => false) 0)) (empty_set (knd := mixKind X.prog X.w) (hp := s2.heap)))
  have young : ∀ b ∈ fp, b < s2.heap.objs.size := by
    intro b hb
    obtain ⟨o, e, _⟩ := T.obj _ _ st2 b hb
    exact Heap.lt_size e
  have grown : ∀ b o, s2.heap.get? b = some o → (s2.heap.push { cls := .type "set", dict := none, data := .set #[] 0 (.fresh 0 0 (!X.w.params.followText "set-order")) }).get? b = some o := fun b o e => Heap.get?_push_of_some _ e
  have sz3 : (s2.heap.push { cls := .type "set", dict := none, data := .set #[] 0 (.fresh 0 0 (!X.w.params.followText "set-order")) }).objs.size = s2.heap.objs.size + 1 := size_push' _ _
  have f3 : ∀ b ∈ fp, FpOk X pins (upd G s2.heap.objs.size (KS X.prog X.w s2.heap.objs.size (fun _ => false) 0)) b ∧ b < s2.heap.objs.size + 1 := by
    intro b hb
    refine ⟨⟨?_, (f2 b hb).2⟩, Nat.lt_succ_of_lt (young b hb)⟩
    rw [upd_ne (Nat.ne_of_lt (young b hb))]
    exact (f2 b hb).1
  have f3 : ∀ b ∈ fp, FpOk X pins (upd G s2.heap.objs.size (KS X.prog X.w s2.heap.objs.size (fun _ => false) 0)) b ∧ b < (s2.heap.push { cls := .type "set", dict := none, data := .set #[] 0 (.fresh 0 0 (!X.w.params.followText "set-order")) }).objs.size := by
    rw [sz3]
    exact f3
  generalize s2.heap.push { cls := .type "set", dict := none, data := .set #[] 0 (.fresh 0 0 (!X.w.params.followText "set-order")) } = h3 at I3 grown sz3 f3 ⊢
  have I4 := block_start I3 ok hN f3
  dsimp only at I4
  have t4 : tn 0 (pushCells (h3.push { cls := .type "dict", data := .dict #[] }) scope.names) := T.keep _ _ _ st2 fun b _ o e => pushCells_keeps _ _ _ _ (Heap.get?_push_of_some _ (grown b o e))
  have pg := hg { s2 with heap := h3 } (upd G s2.heap.objs.size (KS X.prog X.w s2.heap.objs.size (fun _ => false) 0)) h3.objs.size (cellsFrom (h3.objs.size + 1) scope.names (cloFrom X.env.cells scope.names [])) fp
  have pt := ht { s2 with heap := h3 } (upd G s2.heap.objs.size (KS X.prog X.w s2.heap.objs.size (fun _ => false) 0)) h3.objs.size (cellsFrom (h3.objs.size + 1) scope.names (cloFrom X.env.cells scope.names [])) fp
  have pe := he { s2 with heap := h3 } (upd G s2.heap.objs.size (KS X.prog X.w s2.heap.objs.size (fun _ => false) 0)) h3.objs.size (cellsFrom (h3.objs.size + 1) scope.names (cloFrom X.env.cells scope.names [])) fp
  have loop := sk_loop (X := X) (pos := pos) (iter := iter) (R := compPost (model X.prog X.w) X.A X.xe none (EP X pins σ Q) (.ref s2.heap.objs.size) h3.objs.size) hc pg pt pe T I4 t4 (fun b hb => (f3 b hb).1.1) q (by
    intro G9 t' I9 q9
    have I7 : Inv X pins σ G9 t' := I3.call' (ch := fp) I9.os I9.base I9.hok I9.bare fun b hb => ⟨(f3 b hb).1.2.2.2.1, (f3 b hb).1.2.1, (f3 b hb).1.2.2.2.2.1, (f3 b hb).1.2.2.2.2.2⟩
    obtain ⟨m, hn, _⟩ := I9.loc
    refine ⟨m, hn, fun h'' sb => ?_⟩
    obtain ⟨a0, a1, a2, a3, a4, a5⟩ := I3.fpOk (Nat.le_refl _) (show G9 h3.objs.size = none from I9.free)
    exact ⟨.ref _, G9, I7.turned (t' := t'.toks) (fun b o hb e => (sb.2 b hb).trans e) a0 a1 a3 a4 a5, rfl, q9⟩)
  exact codeAny_compStart_set loop (T.self X.A 0 _ _ _ t4 loop)
end
end St

set_option Elab.async false
set_option linter.all false
set_option maxRecDepth 100000
set_option maxHeartbeats 2000000
namespace St
open PySem PySem.Spec PyProof.Rows L2
/-! such a set of texts, sorted -/
section
variable {P : Program} {w : World}
theorem tx_one {S : Key → Bool} {xs : Array (Int × Value)} {tb : SetTable} (T : Tbl (mixKind P w) S xs tb) (h : ∀ k, S k = true → ∃ z : PySem.Str, k = Sum.inr z) : ∀ e ∈ xs.toList, ∃ (z : PySem.Str) (t : Tok), e.2 = Value.str z t := by
  intro e m
  obtain ⟨⟨k, q, _⟩, _⟩ := T.el e m
  obtain ⟨z, rfl⟩ := h k ((T.mem k).mpr ⟨e, m, q⟩)
  exact ⟨z, Value.isStrOf_shape q⟩
theorem tx_is {z : PySem.Str} {t : Tok} (k : Key) : (mixKind P w).is k (Value.str z t) = true ↔ k = Sum.inr z := by
  constructor
  · intro q
    exact (mixKind P w).inj _ _ _ q (kV_is (k := Sum.inr z) ⟨t, rfl⟩)
  · rintro rfl
    exact kV_is (k := Sum.inr z) ⟨t, rfl⟩
theorem tx_nodup {l : List (Int × Value)} (h : ∀ e ∈ l, ∃ (z : PySem.Str) (t : Tok), e.2 = Value.str z t) (o : OneEach (mixKind P w) l) : (l.map fun e => strOf e.2).Nodup := by
  refine List.pairwise_map.mpr (List.Pairwise.imp_of_mem (fun {x y} mx my q e => ?_) o)
  obtain ⟨z, t, ez⟩ := h x mx
  obtain ⟨z', t', ez'⟩ := h y my
  rw [ez, ez'] at e
  have e' : z = z' := e
  subst e'
  refine q (Sum.inr z) ?_ ?_
  · rw [ez]
    exact (tx_is _).mpr rfl
  · rw [ez']
    exact (tx_is _).mpr rfl
theorem tx_mem {S : Key → Bool} {xs : Array (Int × Value)} {tb : SetTable} (T : Tbl (mixKind P w) S xs tb) (h : ∀ e ∈ xs.toList, ∃ (z : PySem.Str) (t : Tok), e.2 = Value.str z t) (z : PySem.Str) : z ∈ (xs.toList.map fun e => strOf e.2) ↔ S (Sum.inr z) = true := by
  rw [T.mem, List.mem_map]
  constructor
  · rintro ⟨e, m, rfl⟩
    obtain ⟨y, t, ey⟩ := h e m
    refine ⟨e, m, ?_⟩
    rw [ey]
    exact (tx_is _).mpr rfl
  · rintro ⟨e, m, q⟩
    obtain ⟨y, t, ey⟩ := h e m
    rw [ey] at q
    have e2 := (tx_is _).mp q
    refine ⟨e, m, ?_⟩
    rw [ey]
    exact (Sum.inr.inj e2).symm
end
section
variable {X : Cx}
/-- sorted(s), s a set of fewer than 64 texts -/
def rSortS (P : Program) (w : World) : List V → Hp → VK → Prop := fun xs H Q => ∃ (a : Addr) (S : Key → Bool) (n : Nat), xs = [V.ref a] ∧ H a = some (KS P w a S n) ∧ n < 64 ∧ (∀ k, S k = true → ∃ z : PySem.Str, k = Sum.inr z) ∧
  ∀ ys p, H p = none → sortedS ys = true → ys.Nodup → (∀ z, z ∈ ys ↔ S (Sum.inr z) = true) → ys.length = n → Q (.ref p) (upd H p (.lst (ys.map V.str)))
theorem cr_sortS (hc : X.calm = true) : CallR X (.builtin "sorted") (rSortS X.prog X.w) := by
  rintro pins s σ H xs us Q I r ⟨a, S, n, rfl, ha, few, tx, q⟩
  obtain ⟨u, rfl, rx⟩ := vals1 r
  cases rx
  obtain ⟨ob, es, np, tb, e1, ex, e2, en, T⟩ := ko_at I ha
  have one := tx_one T tx
  have nd := tx_nodup one T.one
  have mm := tx_mem T one
  refine Calls.call_function_entry kind_sorted plain_sorted entry_sorted (args_sorted1 _) ?_
  unfold Builtin.«sorted»
  refine wpAny_bind (m := checkCount "sorted" 1 1 _) (wpAny_pure (wpAny_bind (collect_set (A := X.A.in1) (I.ok.hd hc) ⟨ob, e1, ex.1, e2⟩ T.fit T.low T.lay.1 T.lay.2 fun s1 vs k1 hz g1 o1 pm => ?_)))
  have lv : vs.length = n := by rw [pm.length_eq, List.length_map, Array.length_toList, en]
  have hS : StrsAre vs (vs.map strOf) := strsAre_map vs fun v hv => by
    obtain ⟨e, m, rfl⟩ := List.mem_map.mp (pm.mem_iff.mp hv)
    exact one e m
  have pk : (vs.map strOf).Perm (es.toList.map fun e => strOf e.2) := by
    have z := pm.map strOf
    rw [List.map_map] at z
    exact z
  refine wpAny_bind (wpAny_newList ?_ (by rw [lv, sizeLine_eq]; omega))
  have new : (s1.heap.push (seqObj "list" vs.toArray 0)).get? s1.heap.objs.size = some (seqObj "list" vs.toArray 0) := Heap.get?_push_size _ rfl
  refine wpAny_bind (wpAny_holding (wpAny_call_entry slot_list_sort ⟨_, new, rfl⟩ entry_list_sort (list_sort_treeK strKind_oneLt new hS.keysOf (fun v₁ v₂ rest e => keyKind_strs (by rw [← e]; exact hS)) (by rw [lv]; exact few) fun st' hp hs => ⟨_, rfl, ?_⟩) (args_list_sort _)))
  obtain ⟨ys, g1', g2, g3⟩ := sorted_out_str hS hp hs
  obtain ⟨c, hc'⟩ := sortedHeap_at (vs := vs) (out := (arrOf st').map (·.2)) new
  have py := g2.trans pk
  have ly : ys.length = n := by rw [g2.length_eq, List.length_map, lv]
  have I1 : Inv X pins σ H s1 := I.call' (ch := []) o1 (Un.kept k1) (I.hok.kept k1) (by rw [g1]; exact I.bare) (fun _ z => nomatch z)
  refine wpAny_pure ⟨_, rfl, .ref s1.heap.objs.size, upd H s1.heap.objs.size (.lst (ys.map V.str)), I1.laid (t' := s1.toks) (fun b u e => ?_) (Nat.le_refl _) ⟨?_, ((arrOf st').map (·.2)).toList, c, vals_of_strs g1', ?_⟩, rfl, q ys _ (I1.hok.fresh (Nat.le_refl _)) g3 (py.nodup_iff.mpr nd) (fun z => by rw [py.mem_iff, mm]) ly⟩
  · have lt := Heap.lt_size e
    rw [sortedHeap_old (Nat.ne_of_lt lt) (by rw [size_push']; exact Nat.lt_succ_of_lt lt)]
    exact Heap.get?_push_of_some _ e
  · rw [List.length_map, ly, sizeLine_eq]
    omega
  · rw [Array.toArray_toList]
    exact hc'
end
end St

set_option Elab.async false
set_option linter.all false
set_option maxRecDepth 100000
set_option maxHeartbeats 2000000
namespace St
open PySem PySem.Spec PyProof.Rows L2
/-! such a set of whole numbers, sorted -/
section
variable {P : Program} {w : World}
theorem in_one {S : Key → Bool} {xs : Array (Int × Value)} {tb : SetTable} (T : Tbl (mixKind P w) S xs tb) (h : ∀ k, S k = true → ∃ z : Int, k = Sum.inl z) : ∀ e ∈ xs.toList, ∃ (z : Int) (t : Tok), e.2 = Value.int z t := by
  intro e m
  obtain ⟨⟨k, q, _⟩, _⟩ := T.el e m
  obtain ⟨z, rfl⟩ := h k ((T.mem k).mpr ⟨e, m, q⟩)
  rcases keyIs_shape (k := Sum.inl z) (v := e.2) q with ⟨i, t, e1, e2⟩ | ⟨x, t, e1, e2⟩
  · cases e1
    exact ⟨_, t, e2⟩
  · cases e1
theorem in_is {z : Int} {t : Tok} (k : Key) : (mixKind P w).is k (Value.int z t) = true ↔ k = Sum.inl z := by
  constructor
  · intro q
    exact (mixKind P w).inj _ _ _ q (kV_is (k := Sum.inl z) ⟨t, rfl⟩)
  · rintro rfl
    exact kV_is (k := Sum.inl z) ⟨t, rfl⟩
theorem in_nodup {l : List (Int × Value)} (h : ∀ e ∈ l, ∃ (z : Int) (t : Tok), e.2 = Value.int z t) (o : OneEach (mixKind P w) l) : (l.map fun e => numOf e.2).Nodup := by
  refine List.pairwise_map.mpr (List.Pairwise.imp_of_mem (fun {x y} mx my q e => ?_) o)
  obtain ⟨z, t, ez⟩ := h x mx
  obtain ⟨z', t', ez'⟩ := h y my
  rw [ez, ez'] at e
  have e' : z = z' := e
  subst e'
  refine q (Sum.inl z) ?_ ?_
  · rw [ez]
    exact (in_is _).mpr rfl
  · rw [ez']
    exact (in_is _).mpr rfl
theorem in_mem {S : Key → Bool} {xs : Array (Int × Value)} {tb : SetTable} (T : Tbl (mixKind P w) S xs tb) (h : ∀ e ∈ xs.toList, ∃ (z : Int) (t : Tok), e.2 = Value.int z t) (z : Int) : z ∈ (xs.toList.map fun e => numOf e.2) ↔ S (Sum.inl z) = true := by
  rw [T.mem, List.mem_map]
  constructor
  · rintro ⟨e, m, rfl⟩
    obtain ⟨y, t, ey⟩ := h e m
    refine ⟨e, m, ?_⟩
    rw [ey]
    exact (in_is _).mpr rfl
  · rintro ⟨e, m, q⟩
    obtain ⟨y, t, ey⟩ := h e m
    rw [ey] at q
    have e2 := (in_is _).mp q
    refine ⟨e, m, ?_⟩
    rw [ey]
    exact (Sum.inl.inj e2).symm
end
section
variable {X : Cx}
/-- sorted(s), s a set of fewer than 64 texts -/
def rSortI (P : Program) (w : World) : List V → Hp → VK → Prop := fun xs H Q => ∃ (a : Addr) (S : Key → Bool) (n : Nat), xs = [V.ref a] ∧ H a = some (KS P w a S n) ∧ n < 64 ∧ (∀ k, S k = true → ∃ z : Int, k = Sum.inl z) ∧
  ∀ (ys : List Int) (p : Addr), H p = none → ys.Pairwise (· ≤ ·) → ys.Nodup → (∀ z, z ∈ ys ↔ S (Sum.inl z) = true) → ys.length = n → Q (.ref p) (upd H p (.lst (ys.map V.int)))
theorem cr_sortSI (hc : X.calm = true) : CallR X (.builtin "sorted") (rSortI X.prog X.w) := by
  rintro pins s σ H xs us Q I r ⟨a, S, n, rfl, ha, few, tx, q⟩
  obtain ⟨u, rfl, rx⟩ := vals1 r
  cases rx
  obtain ⟨ob, es, np, tb, e1, ex, e2, en, T⟩ := ko_at I ha
  have one := in_one T tx
  have nd := in_nodup one T.one
  have mm := in_mem T one
  refine Calls.call_function_entry kind_sorted plain_sorted entry_sorted (args_sorted1 _) ?_
  unfold Builtin.«sorted»
  refine wpAny_bind (m := checkCount "sorted" 1 1 _) (wpAny_pure (wpAny_bind (collect_set (A := X.A.in1) (I.ok.hd hc) ⟨ob, e1, ex.1, e2⟩ T.fit T.low T.lay.1 T.lay.2 fun s1 vs k1 hz g1 o1 pm => ?_)))
  have lv : vs.length = n := by rw [pm.length_eq, List.length_map, Array.length_toList, en]
  have hS : IntsAre vs (vs.map numOf) := intsAre_map vs fun v hv => by
    obtain ⟨e, m, rfl⟩ := List.mem_map.mp (pm.mem_iff.mp hv)
    exact one e m
  have pk : (vs.map numOf).Perm (es.toList.map fun e => numOf e.2) := by
    have z := pm.map numOf
    rw [List.map_map] at z
    exact z
  refine wpAny_bind (wpAny_newList ?_ (by rw [lv, sizeLine_eq]; omega))
  have new : (s1.heap.push (seqObj "list" vs.toArray 0)).get? s1.heap.objs.size = some (seqObj "list" vs.toArray 0) := Heap.get?_push_size _ rfl
  refine wpAny_bind (wpAny_holding (wpAny_call_entry slot_list_sort ⟨_, new, rfl⟩ entry_list_sort (list_sort_tree new hS (by rw [lv]; exact few) fun out ys g1' g2 g3 => ⟨_, rfl, ?_⟩) (args_list_sort _)))
  obtain ⟨c, hc'⟩ := sortedHeap_at (vs := vs) (out := out) new
  have py := g2.trans pk
  have ly : ys.length = n := by rw [g2.length_eq, List.length_map, lv]
  have I1 : Inv X pins σ H s1 := I.call' (ch := []) o1 (Un.kept k1) (I.hok.kept k1) (by rw [g1]; exact I.bare) (fun _ z => nomatch z)
  refine wpAny_pure ⟨_, rfl, .ref s1.heap.objs.size, upd H s1.heap.objs.size (.lst (ys.map V.int)), I1.laid (t' := s1.toks) (fun b u e => ?_) (Nat.le_refl _) ⟨?_, out.toList, c, vals_of_ints g1', ?_⟩, rfl, q ys _ (I1.hok.fresh (Nat.le_refl _)) g3 (py.nodup_iff.mpr nd) (fun z => by rw [py.mem_iff, mm]) ly⟩
  · have lt := Heap.lt_size e
    rw [sortedHeap_old (Nat.ne_of_lt lt) (by rw [size_push']; exact Nat.lt_succ_of_lt lt)]
    exact Heap.get?_push_of_some _ e
  · rw [List.length_map, ly, sizeLine_eq]
    omega
  · rw [Array.toArray_toList]
    exact hc'
end
end St

set_option Elab.async false
set_option linter.all false
set_option maxRecDepth 100000
set_option maxHeartbeats 4000000
namespace St
open PySem PySem.Spec PyProof.Rows L2
/-! set(xs), xs a list or a tuple of keys of any kind -/
abbrev sob (w : World) : Obj := { cls := .type "set", dict := none, data := .set #[] 0 (.fresh 0 0 (!w.params.followText "set-order")) }
section
variable {κ : Type} [DecidableEq κ] {P : Program} {w : World} {knd : KeyKind P w κ}
def inKeys (ks : List κ) (k : κ) : Bool := decide (k ∈ ks)
theorem SetS.same_mem {hp : Heap} {a : Addr} {S T : κ → Bool} {n : Nat} (Y : SetS knd hp a S n) (e : ∀ k, T k = S k) : SetS knd hp a T n := by
  rw [show T = S from funext e]
  exact Y
theorem empty_in {hp : Heap} {a : Addr} (q : hp.get? a = some (sob w)) : SetS knd hp a (fun _ => false) 0 := by
  refine ⟨_, #[], 0, _, q, ⟨rfl, rfl, rfl⟩, rfl, rfl, ⟨fun e m => ?_, .nil, fun k => ?_, by decide, by rfl, ⟨.nil, ?_⟩⟩⟩
  · simp at m
  · simp
  · show _ ∨ (!w.params.followText "set-order") = true
    cases w.params.followText "set-order" <;> simp
/-- all keys of a walk are put in -/
theorem put_all {A : Around} {N : Addr} {fp wr : List Addr} {G : Array GenState → Array GenState → Prop} {n : Nat} {Pv : Nat → Value → Prop} {Z : Nat → Shared → Prop} {R : Result → Shared → Prop}
    (W : WalksS P w A.in1 N fp wr G n Pv Z) (S : Addr) (out : S ∉ fp) (ks : List κ) (hn : n = ks.length) (room : ks.length + 1 < scanBound) (item : ∀ i v, Pv i v → ∃ k, ks[i]? = some k ∧ knd.is k v = true ∧ v.scannable = true) :
    ∀ (m i : Nat) (s : Shared), m = n - i → i ≤ n → Z i s → (∃ c, c ≤ i ∧ SetS knd s.heap S (inKeys (ks.take i)) c) →
      (∀ s2 c, Moved (S :: wr) G s s2 → c ≤ n → SetS knd s2.heap S (inKeys ks) c → R (.ok (.ret .none)) s2) → codeAny (model P w) A (.builtin "set.update.loop" ⟨[.ref S, .ref N], []⟩) R s := by
  have outW : S ∉ wr := fun q => out (W.sub _ q)
  have wider : ∀ b ∈ wr, b ∈ S :: wr := fun b q => List.mem_cons_of_mem S q
  intro m
  induction m with
  | zero =>
    intro i s em le z ⟨c, cl, Y⟩ fin
    obtain rfl : i = n := by omega
    refine codeAny_builtin F.entry_set_update_loop ?_
    rw [show _ = _ from Around.under_plainId F.plain_set_update_loop _]
    show wpAny (model P w) A.in1 (pyNext (.ref N) >>= _) _ _ s
    refine wpAny_bind (W.done s _ _ z fun s2 mv => ?_)
    show wpAny (model P w) A.in1 (ret .none) _ _ s2
    rw [List.take_of_length_le (show ks.length ≤ i by omega)] at Y
    exact wpAny_pure (fin s2 c (mv.mono wider) cl (Y.stay fun o q => mv.heap S o outW q))
  | succ m ih =>
    intro i s em le z ⟨c, cl, Y⟩ fin
    have il : i < n := by omega
    refine codeAny_builtin F.entry_set_update_loop ?_
    rw [show _ = _ from Around.under_plainId F.plain_set_update_loop _]
    show wpAny (model P w) A.in1 (pyNext (.ref N) >>= _) _ _ s
    refine wpAny_bind (W.item i s _ _ il z fun v s2 pv z2 mv => ?_)
    obtain ⟨k, ek, hk, sc⟩ := item i v pv
    have Y2 := Y.stay (hq := s2.heap) fun o q => mv.heap S o outW q
    show wpAny (model P w) A.in1 (holding [v] (setAdd S v) >>= _) _ _ s2
    unfold setAdd
    refine wpAny_bind (wpAny_holding (wpAny_holding (wpAny_bind (knd.pyHash hk (add_hashed (s := { s2 with toks := s2.toks + 1 }) Y2 hk sc (by omega) fun hp sb Y3 => ?_)))))
    have Y4 : SetS knd hp S (inKeys (ks.take (i + 1))) (if inKeys (ks.take i) k = true then c else c + 1) := Y3.same_mem fun j => by
      unfold inKeys
      rw [List.take_add_one, ek, Bool.eq_iff_iff]
      simp [List.mem_append]
    refine wpAny_pure ⟨plainId_quiet F.plain_set_update_loop _, ih (i + 1) _ (by omega) il (W.frame _ s2 _ _ z2 (Nat.le_succ _) fun b hb o q => ?_) ⟨_, by split <;> omega, Y4⟩ fun s3 c3 mv3 cl3 Y5 => ?_⟩
    · rw [sb.2 b fun e => out (e ▸ hb)]
      exact q
    · refine fin s3 c3 (Moved.trans W.gtrans ((mv.mono wider).then_heap (Nat.le_succ _) fun b o hb q => ?_) mv3) cl3 Y5
      rw [sb.2 b fun e => hb (e ▸ List.mem_cons_self)]
      exact q
end
section
variable {κ : Type} [DecidableEq κ] {P : Program} {w : World} {knd : KeyKind P w κ} {A : Around} {E : Value → Shared → Prop} {s : Shared}
theorem set_of_lst {l : Addr} {items : Array Value} (ks : List κ) {Q : Value → Shared → Prop} (calm : A.handled = none) (src : s.heap.IsList l items) (few : ks.length + 1 < scanBound) (ln : items.size = ks.length) (each : ∀ (i : Nat) (v : Value), items[i]? = some v → ∃ k, ks[i]? = some k ∧ knd.is k v = true ∧ v.scannable = true)
    (fin : ∀ (hp : Heap) (tk c : Nat), SetS knd hp s.heap.objs.size (inKeys ks) c → c ≤ ks.length → (∀ b o, s.heap.get? b = some o → hp.get? b = some o) → Q (.ref s.heap.objs.size) { s with heap := hp, toks := tk }) : wpAny (model P w) A (call (.type "set") [.ref l]) Q E s := by
  obtain ⟨kc, rest, mro⟩ := F.called_set.mro
  have made := F.called_set.made
  have sub := F.called_set.sub
  refine wpAny_call (codeAny_of_tree (show wpAny _ _ (callAny (.type "set") _) _ _ _ from wpAny_pure ⟨Code.quiet_builtin _ (by decide +kernel), codeAny_builtin F.entry_type_call ?_⟩))
  rw [Around.under_plain (weight_type_call_type "set" [.ref l] []) rfl]
  have n1 := F.called_set.notType
  have n2 := F.called_set.canCreate
  have n3 := F.typeCall_set_1 (.ref l)
  repeat (any_goals (first | assumption | wp_step))
  refine codeAny_mono (code_set_led1 (.ref l) (E := E) (Q₁ := fun v s2 => v = .ref s.heap.objs.size ∧ s2 = { s with heap := s.heap.push (sob w) }) ⟨rfl, rfl⟩) fun r s2 back => ?_
  match r, back with
  | .error _, back => exact back
  | .ok .next, back => exact back.elim
  | .ok .brk, back => exact back.elim
  | .ok .cont, back => exact back.elim
  | .ok (.ret ob), back =>
    obtain ⟨rfl, rfl⟩ := back
    have there : (s.heap.push (sob w)).get? s.heap.objs.size = some (sob w) := Heap.get?_push_size _ rfl
    have isT : Shared.TypeIs { s with heap := s.heap.push (sob w) } (.ref s.heap.objs.size) "set" := ⟨_, there, rfl⟩
    have n4 := F.called_set.init.lookup
    have n5 := F.called_set.init.bind (.ref s.heap.objs.size)
    repeat (any_goals (first | assumption | wp_step))
    refine codeAny_mono (codeAny_call_builtin (R := wants (fun u s3 => u = .none ∧ ∃ hp tk c, s3 = { s with heap := hp, toks := tk } ∧ SetS knd hp s.heap.objs.size (inKeys ks) c ∧ c ≤ ks.length ∧ (∀ b o, s.heap.get? b = some o → hp.get? b = some o)) E) F.called_set.init.plain F.entry_set_init (check_set_init_1 isT ?_)) fun r3 s3 back3 => ?_
    · obtain ⟨ol, gl, cl, nl, dl⟩ := src
      obtain ⟨c0, d0, x0, y0⟩ := ol
      simp only at cl dl
      subst cl dl
      have gl2 : (s.heap.push (sob w)).get? l = some { cls := .type "list", dict := d0, data := .seq items nl, slots := y0 } := Heap.get?_push_of_some _ gl
      have m1 := F.sub_list_set
      have m2 := F.sub_list_frozenset
      have m3 : (Value.type "list" == Value.type "dict") = false := by decide
      have src2 : (s.heap.push (sob w)).IsList l items := ⟨_, gl2, rfl, nl, rfl⟩
      unfold Builtin.«set.__init__» noKeywords
      unfold Builtin.Frozenset.updateFrom
      generalize hit : pyIter = it
      wp_walk
      subst hit
      refine wpAny_pyIter_list src2 (wpAny_bind (wpAny_runValue ?_))
      have ll := Heap.lt_size gl
      have calm3 : A.in1.in1.in1.handled = none := by simp [calm]
      have ne : l ≠ (s.heap.push (sob w)).objs.size := by rw [Heap.size_push]; exact Nat.ne_of_lt (Nat.lt_succ_of_lt ll)
      have out : s.heap.objs.size ∉ [(s.heap.push (sob w)).objs.size, l] := by
        rw [Heap.size_push, List.mem_cons, List.mem_singleton, not_or]
        exact ⟨Nat.ne_of_lt (Nat.lt_succ_self _), Nat.ne_of_gt ll⟩
      refine put_all (knd := knd) ((Walks.list calm3 _ l ne items).toS) s.heap.objs.size out ks ln few each _ 0 _ rfl (Nat.zero_le _) ⟨⟨_, Heap.get?_push_size _ rfl, rfl, rfl⟩, src2.push _⟩ ⟨0, Nat.le_refl 0, (empty_in (Heap.get?_push_of_some _ there)).same_mem fun k => ?_⟩ fun s4 c4 mv cl4 Y => ?_
      · exact decide_eq_false List.not_mem_nil
      · obtain ⟨hp, g4, d4, t4, o4⟩ := s4
        obtain rfl : g4 = s.gens := mv.gens
        obtain rfl : d4 = s.drawn := mv.drawn
        obtain rfl : o4 = s.os := mv.os
        rw [ln] at cl4
        refine wpAny_pure (wpAny_pure ⟨rfl, hp, t4, c4, rfl, Y, cl4, fun b o q => ?_⟩)
        have bl : b < s.heap.objs.size := Heap.lt_size q
        refine mv.heap b o ?_ (Heap.get?_push_of_some _ (Heap.get?_push_of_some _ q))
        rw [List.mem_cons, List.mem_singleton, not_or, Heap.size_push]
        exact ⟨Nat.ne_of_lt bl, Nat.ne_of_lt (Nat.lt_succ_of_lt bl)⟩
    · match r3, back3 with
      | .error _, back3 => exact back3
      | .ok .next, back3 => exact back3.elim
      | .ok .brk, back3 => exact back3.elim
      | .ok .cont, back3 => exact back3.elim
      | .ok (.ret _), back3 =>
        obtain ⟨rfl, hp, tk, c, rfl, Y, cl, kp⟩ := back3
        repeat (any_goals (first | assumption | wp_step))
        exact fin _ _ _ Y cl kp
end
section
variable {κ : Type} [DecidableEq κ] {P : Program} {w : World} {knd : KeyKind P w κ} {A : Around} {E : Value → Shared → Prop} {s : Shared}
theorem set_of_tup {l : Addr} {items : Array Value} (ks : List κ) {Q : Value → Shared → Prop} (calm : A.handled = none) (src : s.heap.IsTuple l items) (few : ks.length + 1 < scanBound) (ln : items.size = ks.length) (each : ∀ (i : Nat) (v : Value), items[i]? = some v → ∃ k, ks[i]? = some k ∧ knd.is k v = true ∧ v.scannable = true)
    (fin : ∀ (hp : Heap) (tk c : Nat), SetS knd hp s.heap.objs.size (inKeys ks) c → c ≤ ks.length → (∀ b o, s.heap.get? b = some o → hp.get? b = some o) → Q (.ref s.heap.objs.size) { s with heap := hp, toks := tk }) : wpAny (model P w) A (call (.type "set") [.ref l]) Q E s := by
  obtain ⟨kc, rest, mro⟩ := F.called_set.mro
  have made := F.called_set.made
  have sub := F.called_set.sub
  refine wpAny_call (codeAny_of_tree (show wpAny _ _ (callAny (.type "set") _) _ _ _ from wpAny_pure ⟨Code.quiet_builtin _ (by decide +kernel), codeAny_builtin F.entry_type_call ?_⟩))
  rw [Around.under_plain (weight_type_call_type "set" [.ref l] []) rfl]
  have n1 := F.called_set.notType
  have n2 := F.called_set.canCreate
  have n3 := F.typeCall_set_1 (.ref l)
  repeat (any_goals (first | assumption | wp_step))
  refine codeAny_mono (code_set_led1 (.ref l) (E := E) (Q₁ := fun v s2 => v = .ref s.heap.objs.size ∧ s2 = { s with heap := s.heap.push (sob w) }) ⟨rfl, rfl⟩) fun r s2 back => ?_
  match r, back with
  | .error _, back => exact back
  | .ok .next, back => exact back.elim
  | .ok .brk, back => exact back.elim
  | .ok .cont, back => exact back.elim
  | .ok (.ret ob), back =>
    obtain ⟨rfl, rfl⟩ := back
    have there : (s.heap.push (sob w)).get? s.heap.objs.size = some (sob w) := Heap.get?_push_size _ rfl
    have isT : Shared.TypeIs { s with heap := s.heap.push (sob w) } (.ref s.heap.objs.size) "set" := ⟨_, there, rfl⟩
    have n4 := F.called_set.init.lookup
    have n5 := F.called_set.init.bind (.ref s.heap.objs.size)
    repeat (any_goals (first | assumption | wp_step))
    refine codeAny_mono (codeAny_call_builtin (R := wants (fun u s3 => u = .none ∧ ∃ hp tk c, s3 = { s with heap := hp, toks := tk } ∧ SetS knd hp s.heap.objs.size (inKeys ks) c ∧ c ≤ ks.length ∧ (∀ b o, s.heap.get? b = some o → hp.get? b = some o)) E) F.called_set.init.plain F.entry_set_init (check_set_init_1 isT ?_)) fun r3 s3 back3 => ?_
    · obtain ⟨ol, gl, cl, nl, dl⟩ := src
      obtain ⟨c0, d0, x0, y0⟩ := ol
      simp only at cl dl
      subst cl dl
      have gl2 : (s.heap.push (sob w)).get? l = some { cls := .type "tuple", dict := d0, data := .seq items nl, slots := y0 } := Heap.get?_push_of_some _ gl
      have m1 := F.sub_tuple_set
      have m2 := F.sub_tuple_frozenset
      have m3 : (Value.type "tuple" == Value.type "dict") = false := by decide
      have src2 : (s.heap.push (sob w)).IsTuple l items := ⟨_, gl2, rfl, nl, rfl⟩
      unfold Builtin.«set.__init__» noKeywords
      unfold Builtin.Frozenset.updateFrom
      generalize hit : pyIter = it
      wp_walk
      subst hit
      refine wpAny_pyIter_tuple src2 (wpAny_bind (wpAny_runValue ?_))
      have ll := Heap.lt_size gl
      have calm3 : A.in1.in1.in1.handled = none := by simp [calm]
      have ne : l ≠ (s.heap.push (sob w)).objs.size := by rw [Heap.size_push]; exact Nat.ne_of_lt (Nat.lt_succ_of_lt ll)
      have out : s.heap.objs.size ∉ [(s.heap.push (sob w)).objs.size, l] := by
        rw [Heap.size_push, List.mem_cons, List.mem_singleton, not_or]
        exact ⟨Nat.ne_of_lt (Nat.lt_succ_self _), Nat.ne_of_gt ll⟩
      refine put_all (knd := knd) ((Walks.tuple calm3 _ l ne items).toS) s.heap.objs.size out ks ln few each _ 0 _ rfl (Nat.zero_le _) ⟨⟨_, Heap.get?_push_size _ rfl, rfl, rfl⟩, src2.push _⟩ ⟨0, Nat.le_refl 0, (empty_in (Heap.get?_push_of_some _ there)).same_mem fun k => ?_⟩ fun s4 c4 mv cl4 Y => ?_
      · exact decide_eq_false List.not_mem_nil
      · obtain ⟨hp, g4, d4, t4, o4⟩ := s4
        obtain rfl : g4 = s.gens := mv.gens
        obtain rfl : d4 = s.drawn := mv.drawn
        obtain rfl : o4 = s.os := mv.os
        rw [ln] at cl4
        refine wpAny_pure (wpAny_pure ⟨rfl, hp, t4, c4, rfl, Y, cl4, fun b o q => ?_⟩)
        have bl : b < s.heap.objs.size := Heap.lt_size q
        refine mv.heap b o ?_ (Heap.get?_push_of_some _ (Heap.get?_push_of_some _ q))
        rw [List.mem_cons, List.mem_singleton, not_or, Heap.size_push]
        exact ⟨Nat.ne_of_lt bl, Nat.ne_of_lt (Nat.lt_succ_of_lt bl)⟩
    · match r3, back3 with
      | .error _, back3 => exact back3
      | .ok .next, back3 => exact back3.elim
      | .ok .brk, back3 => exact back3.elim
      | .ok .cont, back3 => exact back3.elim
      | .ok (.ret _), back3 =>
        obtain ⟨rfl, hp, tk, c, rfl, Y, cl, kp⟩ := back3
        repeat (any_goals (first | assumption | wp_step))
        exact fin _ _ _ Y cl kp
end
/-! the rule -/
section
variable {X : Cx}
theorem vals_at : ∀ {xs : List V} {us : List Value} {i : Nat} {v : Value}, Vals xs us → us[i]? = some v → ∃ x, xs[i]? = some x ∧ RelV x v
  | _, _, 0, _, .cons r _, e => by cases e; exact ⟨_, rfl, r⟩
  | _, _, i + 1, _, .cons _ t, e => by
    obtain ⟨x, h1, h2⟩ := vals_at (i := i) t (by simpa using e)
    exact ⟨x, by simpa using h1, h2⟩
  | _, _, i, _, .nil, e => by simp at e
theorem keys_at {ks : List Key} {us : List Value} (r : Vals (ks.map kV) us) {i : Nat} {v : Value} (h : us.toArray[i]? = some v) : ∃ k, ks[i]? = some k ∧ (mixKind X.prog X.w).is k v = true ∧ v.scannable = true := by
  rw [List.getElem?_toArray] at h
  obtain ⟨x, hx, rx⟩ := vals_at r h
  rw [List.getElem?_map] at hx
  obtain ⟨k, hk, rfl⟩ := Option.map_eq_some_iff.mp hx
  refine ⟨k, hk, kV_is rx, ?_⟩
  cases k with
  | inl j =>
    obtain ⟨t, rfl⟩ := rx
    rfl
  | inr z =>
    obtain ⟨t, rfl⟩ := rx
    rfl
/-- set(xs) -/
def rSetOf (K : PySem.W.Frag) (P : Program) (w : World) : List V → Hp → VK → Prop := fun xs H Q => ∃ (a : Addr) (ks : List Key), xs = [V.ref a] ∧ (SqL K H a (ks.map kV) ∨ SqT K H a (ks.map kV)) ∧ ks.length < 60 ∧ ∀ p n, H p = none → n ≤ ks.length → Q (.ref p) (upd H p (KS P w p (inKeys ks) n))
theorem cr_setOf (hc : X.calm = true) : CallR X (.type "set") (rSetOf X.K X.prog X.w) := by
  intro pins s σ H xs us Q I r h
  obtain ⟨a, ks, rfl, hq, few, q⟩ := h
  obtain ⟨u, rfl, rx⟩ := vals1 r
  cases rx
  have big : 1000 < scanBound := by decide
  have fin : ∀ (hp : Heap) (tk c : Nat), SetS (mixKind X.prog X.w) hp s.heap.objs.size (inKeys ks) c → c ≤ ks.length → (∀ b o, s.heap.get? b = some o → hp.get? b = some o) → ∃ z H1, Inv X pins σ H1 { s with heap := hp, toks := tk } ∧ RelV z (.ref s.heap.objs.size) ∧ Q z H1 := fun hp tk c Y cl kp =>
    ⟨.ref s.heap.objs.size, _, I.laid (t' := tk) kp (Nat.le_refl _) (ko_ok Y), rfl, q _ c (I.hok.fresh (Nat.le_refl _)) cl⟩
  rcases hq with hq | hq
  · obtain ⟨its, rv, pl, hz⟩ := I.list hq
    exact set_of_lst (knd := mixKind X.prog X.w) ks (I.ok.hd hc) pl.isList (by omega) (by rw [List.size_toArray, ← rv.length, List.length_map]) (fun i v e => keys_at rv e) fin
  · obtain ⟨its, rv, pt, hz⟩ := I.tuple hq
    exact set_of_tup (knd := mixKind X.prog X.w) ks (I.ok.hd hc) (show s.heap.IsTuple a its.toArray from pt) (by omega) (by rw [List.size_toArray, ← rv.length, List.length_map]) (fun i v e => keys_at rv e) fin
end
end St

set_option Elab.async false
set_option linter.all false
set_option maxRecDepth 100000
set_option maxHeartbeats 2000000
namespace Mw
open PySem PySem.Spec PyProof.Rows L2
/-! o.m(k = v, ..), all by name -/
section
variable {X : Cx} {CX : CXT} {k : Nat} {C f : Addr} {fd : FuncData} {ps ks : List PySem.Str} {sp : Sp} {E : XK} {o : Expr} {kws : List Keyword} {m : PySem.Str} {pos apos : Pos} {ta : TE} {tk : TA} {pl : Sem Bool} {g : List Value → List Value → List Value} {gV : List V → List V → List V}
def tMethW (C : Addr) (m : PySem.Str) (n : Nat) (sp : Sp) (gV : List V → List V → List V) (E : XK) (ta : TE) (tk : TA) : TE := fun σ H Q => ta σ H fun x G => ∃ (a dx : Addr) (fs : List (PySem.Str × V)), x = .ref a ∧ G a = some (.ins C dx fs) ∧ fs.lookup m = none ∧ tk σ G fun zs G2 => zs.length = n ∧ sp (gV [.ref a] zs) G2 Q E
theorem pe_methW (he : PE X o ta) (c : Cls X.K C) (hm : Meth X.K C m f) (F : FnOk X.prog X.w X.K X.mg X.base CX k f fd ps sp) (hr : Room k X.A) (hb : KBn X.K fd ps 1 ks g gV) (hx : Passes CX X E) (hkw : PK X kws tk)
    (hall : (backToKw pos (keywordEach kws X.env)).all (·.1.isSome) = true := by rfl) (hks : (backToKw pos (keywordEach kws X.env)).filterMap (·.1) = ks := by rfl)
    (hpl : ((backTo pos (starEach [] X.env)).any (·.1) || (backToKw pos (keywordEach kws X.env)).any (·.1.isNone)) = false := by rfl)
    (ht : eval (.Call (.Attribute o m apos) [] kws pos) X.env = (do
      let a ← eval o X.env
      standAt apos.atName
      let (f, first) ← holding [a] (getMethod a m pl)
      callWith pos f first (backTo pos (starEach [] X.env)) (backToKw pos (keywordEach kws X.env))) := by rfl) :
    PE X (.Call (.Attribute o m apos) [] kws pos) (tMethW C m ks.length sp gV E ta tk) := by
  constructor
  intro pins s σ H Q I h
  refine PySem.W.methodCall_KW (pl := pl) (thn (he.run pins s σ H _ I h) ?_) ht
  rintro u s1 ⟨x, G, I1, rx, a, dx, fs, rfl, ea, l, q⟩
  obtain rfl : u = Value.ref a := rx
  refine getmeth_ok I1 ea c hm l ?_
  refine PySem.W.callWith_KW0 (first := [.ref a]) (h₀ := X.base) I1.ok.mod.kin hm.kp hall (thn (hkw.run pos pins s1 σ G _ I1 q) ?_) hpl
  rintro ws s2 ⟨zs, G2, I2, rz, l2, q2⟩
  refine ⟨I2.kIn, ?_⟩
  rw [hks]
  have one : Vals [V.ref a] [Value.ref a] := .cons (show RelV (.ref a) (Value.ref a) from rfl) .nil
  have r2 := hb.rel one rz
  have bt := hb.to s2 [.ref a] ws I2.kIn rfl (rz.length.symm.trans l2)
  refine wpAny_call (codeAny_mono (F.run X.A X.stack s2 G2 ⟨[.ref a], ks.zip ws⟩ (g [.ref a] ws) (gV [.ref a] zs) Q E hr I2.env0 bt r2 q2) ?_)
  intro r s' hq
  match r, hq with
  | .error e, hq => exact hx pins σ G2 s2 e s' I2 hq
  | .ok (.ret u), hq => exact I2.after hq
  | .ok .next, hq => exact hq.elim
  | .ok .brk, hq => exact hq.elim
  | .ok .cont, hq => exact hq.elim
/-- x is not b, x None or a bool, b a bool -/
theorem op_notNb : OpR X (compareOp .IsNot) (fun x y H Q => ∃ (a : Option Bool) (b : Bool), x = (match a with | some c => .bl c | none => .non) ∧ y = .bl b ∧ Q (.bl (!decide (a = some b))) H) := by
  intro pins s σ H x y v u Q I rx ry h
  obtain ⟨a, b, rfl, rfl, q⟩ := h
  cases (show u = Value.bool b from ry)
  cases a with
  | none =>
    cases (show v = Value.none from rx)
    exact wpAny_isNot_other rfl (fun z => by cases z) ⟨.bl true, H, I, rfl, by simpa using q⟩
  | some c =>
    cases (show v = Value.bool c from rx)
    by_cases e : c = b
    · subst e
      exact wpAny_isNot_self rfl ⟨.bl false, H, I, rfl, by simpa using q⟩
    · exact wpAny_isNot_other rfl (fun z => e (Value.bool.inj z)) ⟨.bl true, H, I, rfl, by simpa [e] using q⟩
end
end Mw

set_option Elab.async false
set_option linter.all false
set_option maxRecDepth 100000
set_option maxHeartbeats 4000000
namespace Lg
open PySem PySem.Spec PyProof.Rows L2
/-! promises of defs that are called where no guard of repr stands -/
structure FnG (P : Program) (w : World) (K : PySem.W.Frag) (mg : Str → Option Value) (base : Heap) (X0 : CXT) (k : Nat) (f : Addr) (fd : FuncData) (ps : List Str) (sp : Sp) : Prop where
  few : ∀ vs H Q E, sp vs H Q E → vs.length = ps.length
  goes : ∀ (A : Around) (fs : List Env) (s : Shared) (H : Hp) (ar : Args) (us : List Value) (vs : List V) (Q : VK) (E : XK), A.guards = some [] → Room k A → Env0 P w K mg base A fs s H → BindsTo s fd ar (ps.zip us) →
    Vals vs us → sp vs H Q E → codeAny (model P w) A (.call (.ref f) ar) (CR X0 fs P w H s Q E) s
section
variable {P : Program} {w : World} {K : PySem.W.Frag} {mg : Str → Option Value} {base : Heap} {X0 : CXT} {k : Nat} {x qual : Str} {params : Arguments} {bd : List Stmt} {scope : Scope} {dvs : List V} {kws : List (Str × V)} {f : Addr} {fd : FuncData} {N ps : List Str} {sp : Sp}
theorem FnG.of (F : FnOk P w K mg base X0 k f fd ps sp) : FnG P w K mg base X0 k f fd ps sp := ⟨F.len, fun A fs s H ar us vs Q E _ => F.run A fs s H ar us vs Q E⟩
/-- such a def's body -/
theorem okG (F : FunD K x qual params bd scope dvs kws f fd) (S : FnScope N ps scope) (few : ∀ vs H Q E, sp vs H Q E → vs.length = ps.length)
    (does : ∀ (cd : Value) (A : Around) (fs : List Env) (s : Shared) (H : Hp) (vs : List V) (Q : VK) (E : XK), (A.deeper (envOfC qual scope s.heap.objs.size f cd)).guards = some [] → Room k (A.deeper (envOfC qual scope s.heap.objs.size f cd)) → sp vs H Q E →
      ∃ t, PSs (cxOf X0 P w K mg base N qual scope f cd A fs s H E) bd t ∧ t { nx := fun _ G => Q .non G, rt := Q } (start N vs) H) : FnG P w K mg base X0 (k + 1) f fd ps sp := by
  obtain ⟨oc, od, dV, kV, doc, pm, an, cd, ct, sl, rfl, here, code, _, _⟩ := F.ex
  constructor
  · exact few
  intro A fs s H ar us vs Q E g room e0 bt rel pr
  have inK : K.In s.heap := e0.mod.kin.keeps fun b o q => (e0.bs b o q).1
  have free : s.heap.NoLimit := e0.mod.nolimit.keeps fun b o q => (e0.bs b o q).1
  have kinds : ∀ y ∈ ps.zip us, scope.names.lookup y.1 = some .local ∨ (scope.names.lookup y.1 = some .cell ∧ ((cellsFrom (s.heap.objs.size + 1) scope.names []).lookup y.1).isSome = true) := by
    rintro ⟨n, v⟩ hy
    have hn := S.par n (List.of_mem_zip hy).1
    exact hn.imp id fun q => ⟨q, PySem.W.cellsFrom_some _ _ _ (.inl q)⟩
  refine codeAny_call_function room.depth (inK _ _ here) rfl S.co S.gen rfl (PySem.W.codeRec_of inK code) (bt _ _ _ _ (wpAny_newFunctionEnv_cells S.kind kinds ?_))
  intro env he s1 st
  cases he
  refine ⟨free.keeps st.toInCall.keep, codeAny_func ?_⟩
  obtain ⟨t, ht, go⟩ := does cd A fs s H vs Q E g (room.deeper _) pr
  have I : Inv (cxOf X0 P w K mg base N qual scope f cd A fs s H E) [] (start N vs) H s1 := inv_start S room.hd e0 (few _ _ _ _ pr) rel st
  have out : ∀ {σ : L2.St} {G : Hp} {v : V} {u : Value} {s2 : Shared}, Inv (cxOf X0 P w K mg base N qual scope f cd A fs s H E) [] σ G s2 → RelV v u → Q v G → CE fs P w H s Q u s2 := by
    intro σ G v u s2 J r q
    exact ⟨v, G, J.os, J.bare, J.base, J.hok, r, q⟩
  apply wpAny_mono (ht.run [] s1 (start N vs) H _ I go)
  · intro fl s2 z
    match fl, z with
    | .ret u, z => obtain ⟨v, σ, G, J, r, q⟩ := z; exact out J r q
    | .next, z => obtain ⟨σ, G, J, q⟩ := z; exact out (u := Value.none) J (show RelV V.non Value.none from rfl) q
    | .brk, z => obtain ⟨_, _, _, q⟩ := z; exact q.elim
    | .cont, z => obtain ⟨_, _, _, q⟩ := z; exact q.elim
  · exact fun _ _ z => z
end
/-! calls -/
structure CalG (P : Program) (w : World) (K : PySem.W.Frag) (mg : Str → Option Value) (base : Heap) (X0 : CXT) (x : Str) (k : Nat) (ps : List Str) (sp : Sp) : Prop where
  ex : ∃ f fd, mg x = some (.ref f) ∧ PySem.W.keepIn K (.ref f) = true ∧ FnG P w K mg base X0 k f fd ps sp ∧ Binds K fd ps []
section
variable {X : Cx} {x : Str} {p pos : Pos} {e : Expr} {es : List Expr} {t : TA} {k : Nat} {ps : List Str} {sp : Sp}
theorem pe_calG (c : CalG X.prog X.w X.K X.mg X.base CX0 x k ps sp) (gd : X.A.guards = some []) (hr : Room k X.A) (ha : PA X (e :: es) t) (hg : Gl X x := by rfl) (hdb : (x == ("__debug__" : Str)) = false := by decide)
    (he : starEach (e :: es) X.env = (false, eval e X.env) :: starEach es X.env := by rfl) (hpl : (backTo pos (starEach es X.env)).any (·.1) = false := by rfl) :
    PE X (.Call (.Name x p) (e :: es) [] pos) (tCall sp [] E0 t) := by
  obtain ⟨f, fd, hm, hk, F, b⟩ := c.ex
  constructor
  intro pins s σ H Q I h
  refine wpAny_Call_Name_kw (ld_glob I hg hm (PySem.W.callWith_K (h₀ := X.base) I.ok.mod.kin hk (thn (ha.run pos pins s σ H _ I h) ?_) he hpl) hdb)
  rintro us s1 ⟨vs, H1, I1, r, q⟩
  rw [List.append_nil] at q
  have n1 : us.length = ps.length := by rw [← r.length]; exact F.few _ _ _ _ q
  have b1 := b s1 us I1.kIn (by rw [List.append_nil]; exact n1)
  rw [List.append_nil] at b1
  refine ⟨I1.kIn, wpAny_call (codeAny_mono (F.goes X.A X.stack s1 H1 ⟨us, []⟩ us vs Q E0 gd hr I1.env0 b1 r q) ?_)⟩
  intro rr s2 z
  match rr, z with
  | .error e, z => exact z.elim
  | .ok (.ret u), z => exact I1.after z
  | .ok .next, z => exact z.elim
  | .ok .brk, z => exact z.elim
  | .ok .cont, z => exact z.elim
end
end Lg

set_option Elab.async false
set_option linter.all false
set_option maxRecDepth 100000
set_option maxHeartbeats 4000000
namespace Lg
open PySem PySem.Spec PyProof.Rows L2
/-- what a law's call comes to -/
abbrev Yes (s₁ : Shared) : Result → Shared → Prop := fun r s' => r = .ok (.ret (.bool true)) ∧ OldK s₁.heap s'.heap ∧ s'.os = s₁.os ∧ AllBare s'.gens
section
variable {P : Program} {w : World} {K : PySem.W.Frag} {mg mb : Str → Option Value} {X0 : CXT} {k : Nat} {fa a : Addr} {fd : FuncData} {x : Str} {sp : Sp} {s₁ : Shared} {vs : List Value} {ns : List Int}
/-- from a heap in which at most the script is told -/
theorem law_from (inK : K.In s₁.heap) (gl : s₁.heap.Ns mainGlobals mg) (bl : s₁.heap.Ns builtinsNs mb) (same : ∀ x : Str, x ≠ "__name__" → mb x = bootBuiltins x) (free : s₁.heap.NoLimit) (none_ : s₁.gens = #[])
    (script : s₁.heap.get? a = some { cls := .type "list", data := .seq vs.toArray }) (room : Room k callerA) (F : ∀ B : Heap, K.In B → B.Ns mainGlobals mg → FnG P w K mg B X0 k fa fd [x] sp)
    (bt : ∀ (s : Shared) (u : Value), BindsTo s fd ⟨[u], []⟩ [(x, u)]) (no : ∀ H e s', X0 [] H s₁ (fun _ _ _ => False) e s' → False) (H : Hp) (only : Only H) (pr : sp [.ref a] H (fun v _ => v = .bl true) fun _ _ _ => False)
    (ok : HOk P w H s₁.heap) (told : ∀ b u, H b = some u → b = a) (out : ∀ u, H a = some u → K.lookup a = none) : codeAny (model P w) callerA (.call (.ref fa) ⟨[.ref a], []⟩) (Yes s₁) s₁ := by
  have low : ∀ {b : Addr} {o : Obj}, s₁.heap.get? b = some o → (∀ u, H b ≠ some u) → (hidT s₁.heap H).get? b = some o := by
    intro b o q n
    refine hidT_get q ?_
    match hb : H b with
    | none => rfl
    | some u => exact absurd hb (n u)
  have names : ∀ {b : Addr} {m : Str → Option Value}, s₁.heap.Ns b m → (hidT s₁.heap H).Ns b m := by
    rintro b m ⟨o, es, ep, q, d, r⟩
    refine ⟨o, es, ep, low q fun u z => ?_, d, r⟩
    cases told b u z
    rw [script] at q
    cases q
    exact absurd (show Data.seq vs.toArray _ = Data.dict es ep from d) (fun z => by cases z)
  have inB : K.In (hidT s₁.heap H) := fun b o q => low (inK b o q) fun u z => by
    cases told b u z
    rw [out u z] at q
    cases q
  have md : Mod K mg (hidT s₁.heap H) := by
    obtain ⟨mc, c1, c2⟩ := free
    exact ⟨inB, names gl, ⟨mb, names bl, same⟩, ⟨mc, names c1, c2⟩⟩
  have nil : ∀ b : Addr, b ∉ frs ([] : List Env) := fun b z => by cases z
  have e0 : Env0 P w K mg (hidT s₁.heap H) callerA [] s₁ H := ⟨rfl, md, fun b o q => of_hidT q, Nat.le_of_eq (hidT_size _ _), trivial, fun b z => absurd z (nil b), ok, .of_eq none_⟩
  apply codeAny_mono ((F _ inB (names gl)).goes callerA [] s₁ H ⟨[.ref a], []⟩ [.ref a] [.ref a] _ _ rfl room e0 (bt s₁ (.ref a)) (.cons rfl .nil) pr)
  intro r s' z
  match r, z with
  | .error e, z => exact (no H e s' z).elim
  | .ok .next, z => exact z.elim
  | .ok .brk, z => exact z.elim
  | .ok .cont, z => exact z.elim
  | .ok (.ret u), z =>
    obtain ⟨v, G, os, bare, un, ok2, r2, q⟩ := z
    cases (show v = .bl true from q)
    cases (show u = Value.bool true from r2)
    refine ⟨rfl, OldK.of_keep ?_, os, bare⟩
    intro b o hb
    rcases only b with n | ⟨ob, xs, y⟩
    · exact un.keep b o hb n (nil b) (fun z => by cases z)
    · have y1 := (ok b _ y).1
      have y2 := (ok2 b _ (un.frzs b ob _ y)).1
      rw [hb] at y1
      cases y1
      exact y2
theorem law_goes (inK : K.In s₁.heap) (gl : s₁.heap.Ns mainGlobals mg) (bl : s₁.heap.Ns builtinsNs mb) (same : ∀ x : Str, x ≠ "__name__" → mb x = bootBuiltins x) (free : s₁.heap.NoLimit) (none_ : s₁.gens = #[])
    (script : s₁.heap.get? a = some { cls := .type "list", data := .seq vs.toArray }) (whole : IntsAre vs ns) (few : ns.length ≤ sizeLine) (room : Room k callerA) (F : ∀ B : Heap, K.In B → B.Ns mainGlobals mg → FnG P w K mg B X0 k fa fd [x] sp)
    (bt : ∀ (s : Shared) (u : Value), BindsTo s fd ⟨[u], []⟩ [(x, u)]) (pr : ∀ H : Hp, Only H → SqL K H a (ns.map V.int) → sp [.ref a] H (fun v _ => v = .bl true) fun _ _ _ => False)
    (no : ∀ H e s', X0 [] H s₁ (fun _ _ _ => False) e s' → False) : codeAny (model P w) callerA (.call (.ref fa) ⟨[.ref a], []⟩) (Yes s₁) s₁ := by
  have rel := vals_ints whole
  have n := whole.length
  by_cases hk : K.lookup a = none
  · have at_a : ∀ b : Addr, b = a → (if b = a then some (HO.frz { cls := .type "list", data := .seq vs.toArray } (.lst (ns.map V.int))) else none) = some (.frz { cls := .type "list", data := .seq vs.toArray } (.lst (ns.map V.int))) := fun b e => if_pos e
    have off : ∀ b : Addr, b ≠ a → (if b = a then some (HO.frz { cls := .type "list", data := .seq vs.toArray } (.lst (ns.map V.int))) else none) = none := fun b e => if_neg e
    have only : Only fun b => if b = a then some (HO.frz { cls := .type "list", data := .seq vs.toArray } (.lst (ns.map V.int))) else none := fun b => by
      rcases Decidable.em (b = a) with e | e
      · exact .inr ⟨_, _, at_a b e⟩
      · exact .inl (off b e)
    refine law_from inK gl bl same free none_ script room F bt no _ only (pr _ only (.inl (.inr ⟨_, at_a a rfl⟩))) ?_ ?_ fun _ _ => hk
    · intro b u z
      try dsimp only at z
      rcases Decidable.em (b = a) with e | e
      · rw [at_a b e] at z
        cases z
        cases e
        exact ⟨script, by rw [List.length_map]; exact few, vs, _, rel, script⟩
      · rw [off b e] at z
        cases z
    · intro b u z
      try dsimp only at z
      rcases Decidable.em (b = a) with e | e
      · exact e
      · rw [off b e] at z
        cases z
  · obtain ⟨o, ho⟩ := Option.ne_none_iff_exists'.mp hk
    have q := inK a o ho
    rw [script] at q
    cases q
    have only : Only fun _ => none := fun _ => .inl rfl
    refine law_from inK gl bl same free none_ script room F bt no _ only (pr _ only (.inr ⟨_, vs.toArray, _, ho, rfl, rfl, rfl, ?_, ?_⟩)) ?_ ?_ ?_
    · rw [List.size_toArray, n]; exact few
    · simpa using rel
    · exact fun b u z => nomatch (show (none : Option HO) = some u from z)
    · exact fun b u z => nomatch (show (none : Option HO) = some u from z)
    · exact fun u z => nomatch (show (none : Option HO) = some u from z)
end
/-- the goal that is left of a law -/
theorem walk_G {l : PySem.W.OpenLaw} {n k : Nat} {q : Program} {loose : List Str} {XP : (Str → Option Value) → Heap → Prop} {YP : World → Heap → Prop} {d : DefRec} {X0 : CXT} {x : Str} (hn : l.most = some n) (hn2 : n ≤ sizeLine) (hdf : d.params.defaults = []) (room : Room k callerA)
    (F : ∀ (w : World) (mg : Str → Option Value) (fa : Addr) (h : Heap), YP w h → h.Ns mainGlobals mg → mg d.name = some (.ref fa) → ∃ (K : PySem.W.Frag) (fd : FuncData) (sp : Sp), K.In h ∧ (∀ (s : Shared) (u : Value), BindsTo s fd ⟨[u], []⟩ [(x, u)]) ∧
      (∀ (H : Hp) (a : Addr) (ns : List Int), ns.length ≤ n → Only H → SqL K H a (ns.map V.int) → sp [.ref a] H (fun v _ => v = .bl true) fun _ _ _ => False) ∧ ∀ B : Heap, K.In B → B.Ns mainGlobals mg → FnG l.prog w K mg B X0 k fa fd [x] sp)
    (no : ∀ (H : Hp) (s : Shared) (e : Value) (s' : Shared), X0 [] H s (fun _ _ _ => False) e s' → False) : PySem.W.WalkO q loose XP YP l.row.toRowW d [] (fun f vs => PySem.call f vs) := by
  apply Att.attach_call hn hdf
  intro w s₀ s₁ mg mb fa o pm cd doc a vs ns G Y ho hd hcd hmg hobj hints hlen hg
  obtain ⟨K, fd, sp, inK, bt, pr, go⟩ := F w mg fa _ Y G.T.g hmg
  exact law_goes inK G.T.g G.T.b G.T.builtins G.T.nolimit hg hobj hints (Nat.le_trans hlen hn2) room go bt (fun H o s => pr H a ns hlen o s) fun H e s' => no H s₁ e s'
end Lg

set_option Elab.async false
set_option linter.all false
set_option maxRecDepth 100000
set_option maxHeartbeats 4000000
namespace Lg
open PySem PySem.Spec PyProof.Rows L2
/-! values as data, dicts too -/
def kD : Key → PyData
  | .inl i => .int i
  | .inr z => .str z
mutual
inductive Da (H : Hp) : V → PyData → Prop where
  | non : Da H .non .none
  | bl (b : Bool) : Da H (.bl b) (.bool b)
  | int (i : Int) : Da H (.int i) (.int i)
  | str (z : Str) : Da H (.str z) (.str z)
  | lst {a : Addr} {xs : List V} {ds : List PyData} (h : H a = some (.lst xs)) (all : DaAll H xs ds) : Da H (.ref a) (.list ds)
  | tup {a : Addr} {xs : List V} {ds : List PyData} (h : H a = some (.tup xs)) (all : DaAll H xs ds) : Da H (.ref a) (.tuple ds)
  | dic {a : Addr} {kvs : List (Key × V)} {ds : List PyData} (h : H a = some (.dK kvs)) (all : DaAll H (kvs.map (·.2)) ds) : Da H (.ref a) (.dict ((kvs.map fun p => kD p.1).zip ds))
inductive DaAll (H : Hp) : List V → List PyData → Prop where
  | nil : DaAll H [] []
  | cons {v : V} {vs : List V} {d : PyData} {ds : List PyData} (h : Da H v d) (all : DaAll H vs ds) : DaAll H (v :: vs) (d :: ds)
end
mutual
theorem Da.same {H G : Hp} (s : Same H G) : ∀ {v : V} {d : PyData}, Da H v d → Da G v d
  | _, _, .non => .non
  | _, _, .bl b => .bl b
  | _, _, .int i => .int i
  | _, _, .str z => .str z
  | _, _, .lst h all => .lst (s _ _ h) (DaAll.same s all)
  | _, _, .tup h all => .tup (s _ _ h) (DaAll.same s all)
  | _, _, .dic h all => .dic (s _ _ h) (DaAll.same s all)
theorem DaAll.same {H G : Hp} (s : Same H G) : ∀ {vs : List V} {ds : List PyData}, DaAll H vs ds → DaAll G vs ds
  | _, _, .nil => .nil
  | _, _, .cons h all => .cons (Da.same s h) (DaAll.same s all)
end
theorem DaAll.length {H : Hp} : ∀ {vs : List V} {ds : List PyData}, DaAll H vs ds → vs.length = ds.length
  | _, _, .nil => rfl
  | _, _, .cons _ all => by rw [List.length_cons, List.length_cons, DaAll.length all]
/-- the interpreter's own table of modules stands in K -/
def SysIn (K : PySem.W.Frag) : Prop := ∃ o, K.lookup sysModules = some o ∧ o.cls = .type "dict"
section
variable {X : Cx} {pins : List (Addr × Obj)} {σ : L2.St} {H : Hp} {s : Shared}
theorem key_reads {h : Heap} {k : Key} {u : Value} (e : (mixKind X.prog X.w).is k u = true) : Reads h u (kD k) [] := by
  rcases keyIs_shape e with ⟨i, t, rfl, rfl⟩ | ⟨z, t, rfl, rfl⟩
  · exact Reads.int i t
  · exact Reads.str z t
theorem ne_sys (I : Inv X pins σ H s) (y : SysIn X.K) {a : Addr} {o : Obj} (h : s.heap.get? a = some o) (c : o.cls ≠ .type "dict") : sysModules ≠ a := by
  rintro rfl
  obtain ⟨u, hu, cu⟩ := y
  have q := I.kIn _ _ hu
  rw [h] at q
  cases q
  exact c cu
theorem keys_read {h : Heap} : ∀ {es : List DictEntry} {kvs : List (Key × Value)}, Pairs (mixKind X.prog X.w) es kvs → ReadsAll h (es.map (·.key)) (kvs.map fun p => kD p.1) [] ∧ es.map (·.val) = kvs.map (·.2)
  | _, _, .nil => ⟨.nil, rfl⟩
  | _, _, .cons k v r => by
    obtain ⟨r1, r2⟩ := keys_read (h := h) r
    exact ⟨ReadsAll.cons (key_reads k) r1, by rw [List.map_cons, List.map_cons, r2, v]⟩
theorem kv_split : ∀ {kvs : List (Key × V)} {vs : List (Key × Value)}, KV kvs vs → vs.map (fun p => kD p.1) = kvs.map (fun p => kD p.1) ∧ Vals (kvs.map (·.2)) (vs.map (·.2))
  | _, _, .nil => ⟨rfl, .nil⟩
  | _, _, .cons h r => by
    obtain ⟨r1, r2⟩ := kv_split r
    exact ⟨by rw [List.map_cons, List.map_cons, r1, h.1], .cons h.2 r2⟩
theorem zip_fst : ∀ {as bs : List PyData}, as.length = bs.length → (as.zip bs).map (·.1) = as ∧ (as.zip bs).map (·.2) = bs
  | [], [], _ => ⟨rfl, rfl⟩
  | a :: as, b :: bs, h => by
    obtain ⟨r1, r2⟩ := zip_fst (as := as) (bs := bs) (by simpa using h)
    exact ⟨by rw [List.zip_cons_cons, List.map_cons, r1], by rw [List.zip_cons_cons, List.map_cons, r2]⟩
mutual
theorem Da.reads (I : Inv X pins σ H s) (y : SysIn X.K) : ∀ {v : V} {d : PyData} {u : Value}, Da H v d → RelV v u → ∃ as, Reads s.heap u d as ∧ sysModules ∉ as
  | _, _, u, .non, r => by cases (show u = Value.none from r); exact ⟨_, Reads.none, List.not_mem_nil⟩
  | _, _, u, .bl b, r => by cases (show u = Value.bool b from r); exact ⟨_, Reads.bool b, List.not_mem_nil⟩
  | _, _, u, .int i, r => by obtain ⟨t, e⟩ := (show ∃ t, u = Value.int i t from r); cases e; exact ⟨_, Reads.int i t, List.not_mem_nil⟩
  | _, _, u, .str z, r => by obtain ⟨t, e⟩ := (show ∃ t, u = Value.str z t from r); cases e; exact ⟨_, Reads.str z t, List.not_mem_nil⟩
  | _, _, u, .lst (a := a) (xs := xs) h all, r => by
    cases (show u = Value.ref a from r)
    obtain ⟨_, its, n, rv, ho⟩ := (show ObjOk X.prog X.w H s.heap a (.lst xs) from I.hok a _ h)
    obtain ⟨as, q, n1⟩ := DaAll.reads I y all rv
    refine ⟨_, Reads.list ho rfl rfl (by simpa using q), ?_⟩
    rintro (_ | _)
    · exact ne_sys I y ho (by simp) rfl
    · rename_i z; exact n1 z
  | _, _, u, .tup (a := a) (xs := xs) h all, r => by
    cases (show u = Value.ref a from r)
    obtain ⟨_, its, rv, o, ho, hc, n, hd⟩ := (show ObjOk X.prog X.w H s.heap a (.tup xs) from I.hok a _ h)
    obtain ⟨as, q, n1⟩ := DaAll.reads I y all rv
    exact ⟨_, Reads.tuple ho hc hd (by simpa using q), n1⟩
  | _, _, u, .dic (a := a) (kvs := kvs) (ds := ds) h all, r => by
    cases (show u = Value.ref a from r)
    obtain ⟨_, ns, vs, kv, o, es, ep, ho, hx, hd, _, ps, _⟩ := (show ObjOk X.prog X.w H s.heap a (.dK kvs) from I.hok a _ h)
    obtain ⟨k1, k2⟩ := keys_read (h := s.heap) ps
    obtain ⟨k3, k4⟩ := kv_split kv
    obtain ⟨as, q, n1⟩ := DaAll.reads I y all k4
    have ln : (kvs.map fun p => kD p.1).length = ds.length := by rw [List.length_map, ← all.length, List.length_map]
    obtain ⟨z1, z2⟩ := zip_fst ln
    refine ⟨_, Reads.dict ho hx.1 hd (as := []) (by rw [z1, ← k3]; exact k1) (by rw [z2, k2]; exact q), ?_⟩
    rintro (_ | _)
    · exact absurd ns (by simp)
    · rename_i z; exact n1 z
theorem DaAll.reads (I : Inv X pins σ H s) (y : SysIn X.K) : ∀ {vs : List V} {ds : List PyData} {us : List Value}, DaAll H vs ds → Vals vs us → ∃ as, ReadsAll s.heap us ds as ∧ sysModules ∉ as
  | _, _, _, .nil, .nil => ⟨_, ReadsAll.nil, List.not_mem_nil⟩
  | _, _, _, .cons h all, .cons r rs => by
    obtain ⟨as, q1, n1⟩ := Da.reads I y h r
    obtain ⟨bs, q2, n2⟩ := DaAll.reads I y all rs
    exact ⟨_, ReadsAll.cons q1 q2, fun z => (List.mem_append.mp z).elim n1 n2⟩
end
/-- repr of data -/
def rRepr : List V → Hp → VK → Prop := fun xs H Q => ∃ (v : V) (d : PyData), xs = [v] ∧ Da H v d ∧ d.showable = true ∧ d.depth ≤ 16 ∧ d.shown.length ≤ sizeLine ∧ Q (.str d.shown) H
theorem call_repr (y : SysIn X.K) (g : X.A.guards = some []) (room : X.A.units + 200 < cLine) : CallR X (.builtin "repr") rRepr := by
  intro pins s σ H xs us Q I r h
  obtain ⟨v, d, rfl, hd, hs, dp, sz, q⟩ := h
  obtain ⟨u, rfl, rv⟩ := vals1 r
  obtain ⟨as, rd, nm⟩ := Da.reads I y hd rv
  have big : ∀ b : Addr, u = .ref b → wpAny (model X.prog X.w) X.A (call (.builtin "repr") [u]) (EP X pins σ Q) X.xe s := by
    rintro b rfl
    exact PySem.repr_of_reads' rd hs (fun _ => nm) g (by omega) (fun _ _ e => e) (fun h' t tk kept => ⟨.str _, H, I.kept kept, ⟨t, rfl⟩, q⟩) sz
  cases hd with
  | non => cases (show u = Value.none from rv); exact PySem.P.repr_of_none ⟨.str "None", H, I.tok _, ⟨_, rfl⟩, q⟩
  | bl b => cases (show u = Value.bool b from rv); exact PySem.P.repr_of_bool ⟨.str _, H, I.tok _, ⟨_, rfl⟩, q⟩
  | int i => obtain ⟨t, e⟩ := (show ∃ t, u = Value.int i t from rv); cases e; exact PySem.P.repr_of_int (of_decide_eq_true hs) ⟨.str _, H, I.tok _, ⟨_, rfl⟩, q⟩
  | str z => obtain ⟨t, e⟩ := (show ∃ t, u = Value.str z t from rv); cases e; exact PySem.P.repr_of_str ⟨.str _, H, I.tok _, ⟨_, rfl⟩, q⟩ sz
  | lst h all => exact big _ rv
  | tup h all => exact big _ rv
  | dic h all => exact big _ rv
end
end Lg

set_option Elab.async false
set_option linter.all false
set_option maxRecDepth 100000
set_option maxHeartbeats 4000000
namespace Oe
open PySem PySem.Spec PyProof.Rows L2
/-! == and != of an instance with an own __eq__ -/
/-- what it is compared with, and the type of that -/
inductive Cv (C : Addr) (H : Hp) : V → Value → Prop where
  | ins {b dx : Addr} {fs : List (Str × V)} (h : H b = some (.ins C dx fs)) : Cv C H (.ref b) (.ref C)
  | non : Cv C H .non (.type "NoneType")
  | str (z : Str) : Cv C H (.str z) (.type "str")
  | tup {p : Addr} {xs : List V} (h : H p = some (.tup xs)) : Cv C H (.ref p) (.type "tuple")
  | lst {p : Addr} {xs : List V} (h : H p = some (.lst xs)) : Cv C H (.ref p) (.type "list")
section
variable {X : Cx} {pins : List (Addr × Obj)} {σ : L2.St} {H : Hp} {s : Shared} {C : Addr}
theorem looks_ty {v : Value} {T : String} (h : ∀ s' : Shared, (∀ b o, s.heap.get? b = some o → s'.heap.get? b = some o) → s'.TypeIs v T) : PySem.W.Looks (model X.prog X.w) s.heap (typeOf v) (.type T) :=
  fun A Q E s' kept q => wpAny_typeOf (h s' kept) q
theorem Cv.looks (I : Inv X pins σ H s) {y : V} {u t : Value} (c : Cv C H y t) (r : RelV y u) : PySem.W.Looks (model X.prog X.w) s.heap (typeOf u) t := by
  cases c with
  | @ins b dx fs h =>
    cases (show u = Value.ref b from r)
    obtain ⟨m, J, _⟩ := ins_get I.hok h
    obtain ⟨od, J, _⟩ := J.look
    exact J.type
  | non => cases (show u = Value.none from r); exact looks_ty fun _ _ => rfl
  | str z => obtain ⟨t, e⟩ := (show ∃ t, u = Value.str z t from r); cases e; exact looks_ty fun _ _ => rfl
  | @tup p xs h =>
    cases (show u = Value.ref p from r)
    obtain ⟨_, its, rv, o, ho, hc, n, hd⟩ := (show ObjOk X.prog X.w H s.heap p (.tup xs) from I.hok p _ h)
    exact looks_ty fun s' kept => ⟨o, kept _ _ ho, hc⟩
  | @lst p xs h =>
    cases (show u = Value.ref p from r)
    obtain ⟨_, its, n, rv, ho⟩ := (show ObjOk X.prog X.w H s.heap p (.lst xs) from I.hok p _ h)
    exact looks_ty fun s' kept => ⟨_, kept _ _ ho, rfl⟩
/-- an own def, called below -/
theorem own_call {A : Around} {Ex : Value → Shared → Prop} {k : Nat} {f : Addr} {fd : FuncData} {ps : List Str} {sp : Sp} {us : List Value} {vs : List V} {Q : VK} (fr : A.frames = some X.stack) (room : Room k A) (F : FnOk X.prog X.w X.K X.mg X.base CX0 k f fd ps sp)
    (bt : Binds X.K fd ps []) (I : Inv X pins σ H s) (r : Vals vs us) (pr : sp vs H Q E0) : wpAny (model X.prog X.w) A (call (.ref f) us) (EP X pins σ Q) Ex s := by
  have e := I.env0
  have n : us.length = ps.length := by rw [← r.length]; exact F.len _ _ _ _ pr
  have b1 := bt s us I.kIn (by rw [List.append_nil]; exact n)
  rw [List.append_nil] at b1
  refine wpAny_call (codeAny_mono (F.run A X.stack s H ⟨us, []⟩ us vs Q E0 room ⟨fr, e.mod, e.bs, e.bsz, e.funs, e.frf, e.hok, e.bare⟩ b1 r pr) ?_)
  intro rr s2 z
  match rr, z with
  | .error e, z => exact z.elim
  | .ok (.ret u), z => exact I.after z
  | .ok .next, z => exact z.elim
  | .ok .brk, z => exact z.elim
  | .ok .cont, z => exact z.elim
/-- what a class with an own __eq__ and no own __ne__ has -/
structure EqC (K : PySem.W.Frag) (C f : Addr) : Prop where
  eq : PySem.W.findIn K (.ref C) "__eq__" = some (some (.ref f))
  ne : PySem.W.findIn K (.ref C) "__ne__" = some (some (.builtin "object.__ne__"))
  fn : PySem.W.isFn K (.ref f) = true
  ob : PySem.W.mroIn K C (.type "object") = some true
def rOwn (K : PySem.W.Frag) (C : Addr) (sp : Sp) (g : Bool → Bool) : R2 := fun x y H Q => ∃ (a dx : Addr) (fs : List (Str × V)) (t : Value), x = .ref a ∧ H a = some (.ins C dx fs) ∧ Cv C H y t ∧ PySem.W.notFirst K C t = true ∧
  sp [.ref a, y] H (fun v H' => ∃ b, v = .bl b ∧ Q (.bl (g b)) H') E0
variable {k : Nat} {f : Addr} {fd : FuncData} {ps : List Str} {sp : Sp}
theorem op_eqI (E : EqC X.K C f) (F : FnOk X.prog X.w X.K X.mg X.base CX0 k f fd ps sp) (bt : Binds X.K fd ps []) (room : Room k X.A) : OpR X (compareOp .Eq) (rOwn X.K C sp id) := by
  intro pins s σ H x y u v Q I rx ry h
  obtain ⟨a, dx, fs, t, rfl, ha, c, nf, pr⟩ := h
  cases (show u = Value.ref a from rx)
  obtain ⟨m, J, _⟩ := ins_get I.hok ha
  obtain ⟨od, J, _⟩ := J.look
  have fr := I.ok.frames
  obtain ⟨m2, hF⟩ := I.fr
  show wpAny (model X.prog X.w) X.A (richCompare .Eq (.ref a) v) (EP X pins σ Q) X.xe s
  refine PySem.W.cmp_K (op := .Eq) room.units0 hF I.ok.mod.kin J (c.looks I ry) nf E.eq E.fn (thn (own_call fr room F bt I (vs := [.ref a, y]) (.cons (show RelV (.ref a) (Value.ref a) from rfl) (.cons ry .nil)) pr) ?_)
  rintro r s2 ⟨z, H2, I2, rz, b, rfl, q⟩
  cases (show r = Value.bool b from rz)
  exact ⟨.bl b, H2, I2, rfl, q⟩
/-- object.__ne__ on such an instance: its own __eq__ is asked -/
theorem ne_entry {A : Around} {R : Fin → Shared → Prop} {Ex : Value → Shared → Prop} {a : Addr} {ox : Obj} {od : Option Obj} {u : Value} (hu : A.units < cLine) (E : EqC X.K C f) (KI : X.K.In s.heap) (J : PySem.W.InstAt s.heap a ox C od)
    (h : wpAny (model X.prog X.w) A (call (.ref f) [.ref a, u]) (fun r s' => ∃ b, r = .bool b ∧ R (.done (.ret (.bool (!b)))) s') Ex s) : wpAny (model X.prog X.w) A (Builtin.«object.__ne__» ⟨[.ref a, u], []⟩) R Ex s := by
  unfold Builtin.«object.__ne__»
  show wpAny _ _ (slotArgs "__ne__" 1 ⟨[.ref a, u], []⟩ >>= _) _ _ s
  refine wpAny_bind (wpAny_of_eq (rfl : slotArgs "__ne__" 1 ⟨[.ref a, u], []⟩ = pure (.ref a, [u])) ?_)
  refine wpAny_bind (wpAny_cRoomFor hu (wpAny_bind ?_))
  refine PySem.W.ifBound_K KI J E.eq E.fn (wpAny_mono h ?_ fun _ _ z => z)
  rintro r s' ⟨b, rfl, q⟩
  exact wpAny_bind (wpAny_truthy_bool (wpAny_pure q))
theorem ne_call {A : Around} {R : Value → Shared → Prop} {Ex : Value → Shared → Prop} {a : Addr} {ox : Obj} {od : Option Obj} {u : Value} (hu : A.units + 1 < cLine) (E : EqC X.K C f) (KI : X.K.In s.heap) (J : PySem.W.InstAt s.heap a ox C od)
    (h : wpAny (model X.prog X.w) A.in1 (call (.ref f) [.ref a, u]) (fun r s' => ∃ b, r = .bool b ∧ R (.bool (!b)) s') (fun _ _ => False) s) : wpAny (model X.prog X.w) A (tryCompare (.ref a) "__ne__" u) (fun r s' => ∃ v, r = some v ∧ v ≠ .notImplemented ∧ R v s') Ex s := by
  have run : wpAny (model X.prog X.w) A (call (.builtin "object.__ne__") [.ref a, u]) (fun v s' => ∃ b, v = .bool b ∧ R v s') Ex s := by
    refine wpAny_call (codeAny_call_builtin F.cmp_object.ne.plain F.cmpEntry_ne (PySem.W.check_slot F.cmpKind_ne F.cmpSplit_ne (J.type.andThen (PySem.W.looks_mroIn KI E.ob)) (F.cmpArgs_ne _ _) ?_))
    refine ne_entry (by show A.units + 1 < cLine; exact hu) E KI J (wpAny_mono h ?_ fun _ _ z => z.elim)
    rintro r s' ⟨b, rfl, q⟩
    exact ⟨b, rfl, _, rfl, q⟩
  unfold tryCompare
  have last : wpAny (model X.prog X.w) A (callSpecialIfBound? (.ref a) "__ne__" [u]) (fun r s' => ∃ b, r = some (.bool b) ∧ R (.bool b) s') Ex s := by
    simp only [callSpecialIfBound?, bindSpecialIfBound?]
    refine wpAny_holding (wpAny_bind (wpAny_bind (wpAny_bind (J.type.here ((PySem.W.looks_findIn KI E.ne).here (wpAny_bind (wpAny_askSetting (wpAny_ite ?_))))))))
    have go : wpAny (model X.prog X.w) A (call (.builtin "object.__ne__") ([.ref a] ++ [u]) >>= fun v => pure (some v)) (fun r s' => ∃ b, r = some (.bool b) ∧ R (.bool b) s') Ex s := by
      refine wpAny_bind (wpAny_mono run ?_ fun _ _ z => z)
      rintro v s' ⟨b, rfl, q⟩
      exact wpAny_pure ⟨b, rfl, q⟩
    split
    · exact wpAny_bind (wpAny_of_eq (F.cmp_object.ne.bind _) (wpAny_pure (by exact go)))
    · exact wpAny_tryCatch (wpAny_bind (wpAny_of_eq (F.cmp_object.ne.bind _) (wpAny_pure (by exact go))))
  refine wpAny_bind (wpAny_mono last ?_ fun _ _ z => z)
  rintro r s' ⟨b, rfl, q⟩
  exact wpAny_pure ⟨_, rfl, (fun z => by cases z), q⟩
theorem rich_ne {R : Value → Shared → Prop} {Ex : Value → Shared → Prop} {A : Around} {a : Addr} {ox : Obj} {od : Option Obj} {u t : Value} (hu : A.units < cLine) (KI : X.K.In s.heap) (J : PySem.W.InstAt s.heap a ox C od) (look : PySem.W.Looks (model X.prog X.w) s.heap (typeOf u) t)
    (nf : PySem.W.notFirst X.K C t = true) (h : wpAny (model X.prog X.w) A (tryCompare (.ref a) "__ne__" u) (fun r s' => ∃ v, r = some v ∧ v ≠ .notImplemented ∧ R v s') Ex s) : wpAny (model X.prog X.w) A (richCompare .NotEq (.ref a) u) R Ex s := by
  have sub : t = .ref C ∨ PySem.W.subIn X.K t (.ref C) = some false := (Bool.or_eq_true_iff.mp nf).imp beq_iff_eq.mp beq_iff_eq.mp
  have go : ∀ K2 : Option Value → Sem Value, (∀ v, K2 (some v) = pure v) → wpAny (model X.prog X.w) A (tryCompare (.ref a) "__ne__" u >>= K2) R Ex s := by
    intro K2 e
    refine wpAny_bind (wpAny_mono h ?_ fun _ _ z => z)
    rintro r s' ⟨v, rfl, _, q⟩
    rw [e v]
    exact wpAny_pure q
  unfold richCompare
  simp only [oneThing_ref]
  refine wpAny_holding (wpAny_bind (wpAny_cRoomFor hu (wpAny_bind (J.type.here (wpAny_bind (look.here ?_))))))
  split
  · rename_i q
    rcases sub with e | e
    · rw [e] at q
      simp at q
    · refine wpAny_bind ((PySem.W.looks_subIn KI e).here ?_)
      simp only [Bool.false_eq_true, if_false]
      exact go _ fun _ => rfl
  · refine wpAny_bind (wpAny_pure ?_)
    simp only [Bool.false_eq_true, if_false]
    exact go _ fun _ => rfl
theorem op_neI (E : EqC X.K C f) (F : FnOk X.prog X.w X.K X.mg X.base CX0 k f fd ps sp) (bt : Binds X.K fd ps []) (room : Room (k + 1) X.A) : OpR X (compareOp .NotEq) (rOwn X.K C sp Bool.not) := by
  intro pins s σ H x y u v Q I rx ry h
  obtain ⟨a, dx, fs, t, rfl, ha, c, nf, pr⟩ := h
  cases (show u = Value.ref a from rx)
  obtain ⟨m, J, _⟩ := ins_get I.hok ha
  obtain ⟨od, J, _⟩ := J.look
  have fr := I.ok.frames
  have r1 : Room k X.A.in1 := room.in1
  show wpAny (model X.prog X.w) X.A (richCompare .NotEq (.ref a) v) (EP X pins σ Q) X.xe s
  refine rich_ne room.units0 I.kIn J (c.looks I ry) nf (ne_call r1.units0 E I.kIn J (thn (own_call (A := X.A.in1) fr r1 F bt I (vs := [.ref a, y]) (.cons (show RelV (.ref a) (Value.ref a) from rfl) (.cons ry .nil)) pr) ?_))
  rintro r s2 ⟨z, H2, I2, rz, b, rfl, q⟩
  cases (show r = Value.bool b from rz)
  exact ⟨b, rfl, .bl (!b), H2, I2, rfl, q⟩
end
end Oe

set_option Elab.async false
set_option linter.all false
set_option maxRecDepth 100000
set_option maxHeartbeats 2000000
namespace Oc
open PySem PySem.Spec PyProof.Rows L2
/-! x in y, y an instance with an own __contains__ -/
structure InC (K : PySem.W.Frag) (C f : Addr) : Prop where
  at_ : PySem.W.findIn K (.ref C) "__contains__" = some (some (.ref f))
  fn : PySem.W.isFn K (.ref f) = true
def rIn (C : Addr) (sp : Sp) (g : Bool → Bool) : R2 := fun x y H Q => ∃ (a dx : Addr) (fs : List (Str × V)), y = .ref a ∧ H a = some (.ins C dx fs) ∧ sp [.ref a, x] H (fun v G => ∃ b, v = .bl b ∧ Q (.bl (g b)) G) E0
section
variable {X : Cx} {C f : Addr} {k : Nat} {fd : FuncData} {ps : List Str} {sp : Sp}
theorem op_inO (W : InC X.K C f) (F : FnOk X.prog X.w X.K X.mg X.base CX0 k f fd ps sp) (bt : Binds X.K fd ps []) (room : Room k X.A) : OpR X (compareOp .In) (rIn C sp id) := by
  rintro pins s σ H x y u v Q I rx ry ⟨a, dx, fs, rfl, ha, pr⟩
  cases (show v = Value.ref a from ry)
  obtain ⟨m, J, _⟩ := ins_get I.hok ha
  obtain ⟨od, J, _⟩ := J.look
  have fr := I.ok.frames
  obtain ⟨m2, hF⟩ := I.fr
  refine PySem.W.in_K hF I.ok.mod.kin J W.at_ W.fn (thn (Oe.own_call fr room F bt I (vs := [.ref a, x]) (.cons (show RelV (.ref a) (Value.ref a) from rfl) (.cons rx .nil)) pr) ?_)
  rintro r s2 ⟨z, H2, I2, rz, b, rfl, q⟩
  cases (show r = Value.bool b from rz)
  exact wpAny_truthy_bool ⟨.bl b, H2, I2, rfl, q⟩
end
end Oc

set_option Elab.async false
set_option linter.all false
set_option maxRecDepth 100000
set_option maxHeartbeats 2000000
namespace Gi
open PySem PySem.Spec PyProof.Rows L2
/-! a[b], a an instance with an own __getitem__ -/
structure GetC (K : PySem.W.Frag) (C f : Addr) : Prop where
  at_ : PySem.W.findIn K (.ref C) "__getitem__" = some (some (.ref f))
  fi : PySem.W.fnIn K f = true
  fn : PySem.W.isFn K (.ref f) = true
def rGet (C : Addr) (sp : Sp) : R2 := fun x y H Q => ∃ (a dx : Addr) (fs : List (PySem.Str × V)), x = .ref a ∧ H a = some (.ins C dx fs) ∧ sp [.ref a, y] H Q E0
section
variable {X : Cx} {C f : Addr} {k : Nat} {fd : FuncData} {ps : List PySem.Str} {sp : Sp} {a b : Expr} {ta tb : TE} {pos : Pos}
theorem pe_own (W : GetC X.K C f) (F : FnOk X.prog X.w X.K X.mg X.base CX0 k f fd ps sp) (bt : Binds X.K fd ps []) (room : Room (k + 1) X.A) (ha : PE X a ta) (hb : PE X b tb) (hsl : ∀ (x : Addr) (i : Value), subscripted b true (.ref x) i = runValue (.builtin "lifetime.subscript" ⟨[.ref x, i], []⟩) := by intro _ _; with_unfolding_all rfl) : PE X (.Subscript a b pos) (tOp (rGet C sp) ta tb) := by
  refine ⟨fun pins s σ H Q I h => ?_⟩
  refine Subscript_ (binT ha hb I h fun v u s2 x y H2 I2 rx ry q => ?_)
  obtain ⟨p, dx, fs, rfl, hp, pr⟩ := q
  cases (show v = Value.ref p from rx)
  obtain ⟨m, J, _⟩ := ins_get I2.hok hp
  obtain ⟨od, J, _⟩ := J.look
  obtain ⟨m2, hF⟩ := I2.fr
  refine PySem.W.sub_K hF I2.ok.mod.kin J W.at_ W.fi W.fn ?_ (hsl p u)
  exact Oe.own_call (A := X.A.in1) I2.ok.frames room.in1 F bt I2 (vs := [.ref p, y]) (.cons (show RelV (.ref p) (Value.ref p) from rfl) (.cons ry .nil)) pr
end
end Gi

set_option Elab.async false
set_option linter.all false
set_option maxRecDepth 100000
set_option maxHeartbeats 2000000
namespace Mk
open PySem PySem.Spec PyProof.Rows L2
/-! o.m(e, .., k = v, ..): some by place, the others by name -/
section
variable {X : Cx} {CX : CXT} {k n : Nat} {C f : Addr} {fd : FuncData} {ps ks : List PySem.Str} {sp : Sp} {E : XK} {o e : Expr} {es : List Expr} {kws : List Keyword} {m : PySem.Str} {pos apos : Pos} {ta : TE} {t tk : TA} {pl : Sem Bool} {g : List Value → List Value → List Value} {gV : List V → List V → List V}
def tMethK (C : Addr) (m : PySem.Str) (n l : Nat) (sp : Sp) (gV : List V → List V → List V) (E : XK) (ta : TE) (t tk : TA) : TE := fun σ H Q => ta σ H fun x G => ∃ (a dx : Addr) (fs : List (PySem.Str × V)), x = .ref a ∧ G a = some (.ins C dx fs) ∧ fs.lookup m = none ∧ t σ G fun ys G1 => ys.length + 1 = n ∧ tk σ G1 fun zs G2 => zs.length = l ∧ sp (gV (.ref a :: ys) zs) G2 Q E
theorem pe_methK (he : PE X o ta) (c : Cls X.K C) (hm : Meth X.K C m f) (F : FnOk X.prog X.w X.K X.mg X.base CX k f fd ps sp) (hr : Room k X.A) (hb : KBn X.K fd ps n ks g gV) (hx : Passes CX X E) (ha : PA X (e :: es) t) (hkw : PK X kws tk)
    (hall : (backToKw pos (keywordEach kws X.env)).all (·.1.isSome) = true := by rfl) (hks : (backToKw pos (keywordEach kws X.env)).filterMap (·.1) = ks := by rfl)
    (hpl : ((backTo pos (starEach (e :: es) X.env)).any (·.1) || (backToKw pos (keywordEach kws X.env)).any (·.1.isNone)) = false := by rfl) (hs : starEach (e :: es) X.env = (false, eval e X.env) :: starEach es X.env := by rfl)
    (ht : eval (.Call (.Attribute o m apos) (e :: es) kws pos) X.env = (do
      let a ← eval o X.env
      standAt apos.atName
      let (f, first) ← holding [a] (getMethod a m pl)
      callWith pos f first (backTo pos (starEach (e :: es) X.env)) (backToKw pos (keywordEach kws X.env))) := by rfl) :
    PE X (.Call (.Attribute o m apos) (e :: es) kws pos) (tMethK C m n ks.length sp gV E ta t tk) := by
  constructor
  intro pins s σ H Q I h
  refine PySem.W.methodCall_KW (pl := pl) (thn (he.run pins s σ H _ I h) ?_) ht
  rintro u s1 ⟨x, G, I1, rx, a, dx, fs, rfl, ea, l, q⟩
  obtain rfl : u = Value.ref a := rx
  refine getmeth_ok I1 ea c hm l ?_
  refine PySem.W.callWith_KW (first := [.ref a]) (h₀ := X.base) I1.ok.mod.kin hm.kp hall (thn (ha.run pos pins s1 σ G _ I1 q) ?_) hpl hs
  rintro us s2 ⟨ys, G1, I2, ry, l1, q1⟩
  refine thn (hkw.run pos pins s2 σ G1 _ I2 q1) ?_
  rintro ws s3 ⟨zs, G2, I3, rz, l2, q2⟩
  refine ⟨I3.kIn, ?_⟩
  rw [hks]
  have all : Vals (V.ref a :: ys) (Value.ref a :: us) := .cons (show RelV (.ref a) (Value.ref a) from rfl) ry
  have r2 := hb.rel all rz
  have bt := hb.to s3 (Value.ref a :: us) ws I3.kIn (by rw [List.length_cons, ← ry.length]; exact l1) (rz.length.symm.trans l2)
  refine wpAny_call (codeAny_mono (F.run X.A X.stack s3 G2 ⟨Value.ref a :: us, ks.zip ws⟩ (g (Value.ref a :: us) ws) (gV (V.ref a :: ys) zs) Q E hr I3.env0 bt r2 q2) ?_)
  intro r s' hq
  match r, hq with
  | .error e, hq => exact hx pins σ G2 s3 e s' I3 hq
  | .ok (.ret u), hq => exact I3.after hq
  | .ok .next, hq => exact hq.elim
  | .ok .brk, hq => exact hq.elim
  | .ok .cont, hq => exact hq.elim
/-- what is never reached -/
theorem ps_nev {X : Cx} {st : Stmt} : PS X st (fun _ _ _ => False) := ⟨fun _ _ _ _ _ _ h => h.elim⟩
end
end Mk

set_option Elab.async false
set_option linter.all false
set_option maxRecDepth 100000
set_option maxHeartbeats 40000000
namespace Lw
open PySem PySem.Spec PyProof.Rows L2
def top (i : Nat) : Stmt := PySem.Challenge.pw_filteredcopies_k43_whole_keys_apart.main.body.getD i (.Pass ⟨0, 0, 0, 0⟩)
abbrev sRowOf : Stmt := top 17
abbrev sCellsOf : Stmt := top 18
abbrev sWay : Stmt := top 19
section
variable {P : Program} {w : World} {K : PySem.W.Frag} {mg : Str → Option Value} {base : Heap}
/-! what a copy holds at a key: None or (row, holders) -/
def HeldV (H : Hp) (v : V) (o : Option (List V × List Int)) : Prop := (v = .non ∧ o = none) ∨ ∃ (p r t : Addr) (row : List V) (fs : List Int), v = .ref p ∧ o = some (row, fs) ∧ H p = some (.tup [.ref r, .ref t]) ∧ H r = some (.tup row) ∧ H t = some (.tup (fs.map V.int))
def RowV (H : Hp) (v : V) (o : Option (List V)) : Prop := (v = .non ∧ o = none) ∨ ∃ (r : Addr) (row : List V), v = .ref r ∧ o = some row ∧ H r = some (.tup row)
theorem HeldV.move {H G : Hp} {v : V} {o : Option (List V × List Int)} (h : HeldV H v o) (k : ∀ (b : Addr) (xs : List V), H b = some (.tup xs) → G b = some (.tup xs)) : HeldV G v o := by
  rcases h with h | ⟨p, r, t, row, fs, e1, e2, h1, h2, h3⟩
  · exact .inl h
  · exact .inr ⟨p, r, t, row, fs, e1, e2, k _ _ h1, k _ _ h2, k _ _ h3⟩
theorem HeldV.same {H G : Hp} {v : V} {o : Option (List V × List Int)} (s : Same H G) (h : HeldV H v o) : HeldV G v o := h.move fun b xs e => s b _ e
theorem RowV.same {H G : Hp} {v : V} {o : Option (List V)} (s : Same H G) (h : RowV H v o) : RowV G v o := by
  rcases h with h | ⟨r, row, e1, e2, h1⟩
  · exact .inl h
  · exact .inr ⟨r, row, e1, e2, s _ _ h1⟩
theorem HeldV.none_iff {H : Hp} {v : V} {o : Option (List V × List Int)} (h : HeldV H v o) : decide (v = .non) = o.isNone := by
  rcases h with ⟨rfl, rfl⟩ | ⟨p, r, t, row, fs, rfl, rfl, _⟩
  · exact decide_eq_true rfl
  · exact decide_eq_false fun e => by cases e
def spRowOf : Sp := fun vs H Q _ => ∃ (v : V) (o : Option (List V × List Int)), vs = [v] ∧ HeldV H v o ∧ ∀ x, RowV H x (o.map (·.1)) → Q x H
theorem scRowOf : FnScope ["held"] ["held"] (defScope sRowOf) := ⟨rfl, rfl, rfl, by decide +kernel, rfl, by decide +kernel, by decide +kernel⟩
theorem ok_rowOf {f : Addr} {fd : FuncData} (F : FnP K "row_of" sRowOf f fd) : FnOk P w K mg base CX0 1 f fd ["held"] spRowOf := by
  refine F.ok scRowOf (fun vs H Q E h => ?_) (fun cdv A outer s H vs Q E hr h => ?_)
  · obtain ⟨v, o, rfl, _⟩ := h
    rfl
  · obtain ⟨v, o, rfl, hv, k⟩ := h
    refine ⟨_, PSs.nox (pss_one (ps_ret (pe_ifExp (pt_cmpR op_isN (pv 0) pe_non (by rfl)) pe_non (pe_ix (by exact ix_tup) (pv 0) pe_int (fun _ _ => rfl))))), ?_⟩
    rcases hv with ⟨rfl, rfl⟩ | ⟨p, r, t, row, fs, rfl, rfl, h1, h2, h3⟩
    · exact ⟨_, rfl, rfl, _, rfl, iteT (k .non (.inl ⟨rfl, rfl⟩))⟩
    · exact ⟨_, rfl, rfl, _, rfl, iteF ⟨_, rfl, p, _, 0, .ref r, rfl, rfl, SqT.of h1, rfl, k (.ref r) (.inr ⟨r, row, rfl, rfl, h2⟩)⟩⟩
/-- a row's cells by their columns -/
def cellsK (cols : List Str) (row : List V) : List (Key × V) := mergeK [] ((cols.map Sum.inr).zip row)
def spCellsOf : Sp := fun vs H Q _ => ∃ (c : Addr) (cols : List Str) (x : V) (o : Option (List V)), vs = [.ref c, x] ∧ H c = some (.tup (cols.map V.str)) ∧ RowV H x o ∧ (o = none → Q .non H) ∧ ∀ row, o = some row → row.length = cols.length ∧ ∀ p, H p = none → Q (.ref p) (upd H p (.dK (cellsK cols row)))
theorem kV_strs (cols : List Str) : (cols.map (Sum.inr : Str → Key)).map kV = cols.map V.str := by rw [List.map_map]; rfl
theorem scCellsOf : FnScope ["columns", "row"] ["columns", "row"] (defScope sCellsOf) := ⟨rfl, rfl, rfl, by decide +kernel, rfl, by decide +kernel, by decide +kernel⟩
theorem ok_cellsOf {f : Addr} {fd : FuncData} (F : FnP K "cells_of" sCellsOf f fd) (hz : mg "zip" = none) (hd : mg "dict" = none) : FnOk P w K mg base CX0 1 f fd ["columns", "row"] spCellsOf := by
  refine F.ok scCellsOf (fun vs H Q E h => ?_) (fun cdv A outer s H vs Q E hr h => ?_)
  · obtain ⟨c, cols, x, o, rfl, _⟩ := h
    rfl
  · obtain ⟨c, cols, x, o, rfl, hc, hx, kn, kr⟩ := h
    refine ⟨_, PSs.nox (pss_one (ps_ret (pe_ifExp (pt_cmpR op_isN (pv 1) pe_non (by rfl)) pe_non (Zt.pe_dictZip (by rfl) hd (by decide +kernel) (by rfl) hz (pa_cons (pv 0) (pa_cons (pv 1) pa_nil)))))), ?_⟩
    rcases hx with ⟨rfl, rfl⟩ | ⟨r, row, rfl, rfl, h1⟩
    · exact ⟨_, rfl, rfl, _, rfl, iteT (kn rfl)⟩
    · obtain ⟨hl, k⟩ := kr row rfl
      refine ⟨_, rfl, rfl, _, rfl, iteF ⟨_, rfl, _, rfl, c, r, cols.map Sum.inr, row, rfl, ?_, SqT.of h1, ?_, fun p np => k p np⟩⟩
      · rw [kV_strs]
        exact SqT.of hc
      · rw [List.length_map]
        exact hl.symm
/-! habits -/
structure Hab where
  pr : Str
  la : Str
  go : Str
  sh : Str
def HabAt (CH : Addr) (H : Hp) (h : Addr) (b : Hab) : Prop := ∃ dx, H h = some (.ins CH dx [("present", .str b.pr), ("lacking", .str b.la), ("gone", .str b.go), ("shared", .str b.sh)])
structure TxtH (K : PySem.W.Frag) (mg : Str → Option Value) (CH CP CC : Addr) : Prop where
  cl : Cls K CH
  n1 : NoAttr K CH "present"
  n2 : NoAttr K CH "lacking"
  n3 : NoAttr K CH "gone"
  n4 : NoAttr K CH "shared"
  gP : mg "Put" = some (.ref CP)
  gC : mg "Change" = some (.ref CC)
  rP : ClX.CRead K CP (.type "type")
  rC : ClX.CRead K CC (.type "type")
  dP : ∃ u, ClX.CVal K CP (.type "type") "deed" (.str "put") u
  dC : ∃ u, ClX.CVal K CC (.type "type") "deed" (.str "change") u
/-- what is done with a message of the deed z, there being a row or not -/
def wayOf (b : Hab) (has : Bool) (z : Str) : Str := if z = "put" then (if has = true then b.pr else ("make" : Str)) else if z = "change" then (if has = true then ("merge" : Str) else b.la) else (if has = true then b.sh else b.go)
def spWay (CH : Addr) : Sp := fun vs H Q _ => ∃ (h : Addr) (b : Hab) (v : V) (o : Option (List V × List Int)) (z : Str), vs = [.ref h, v, .str z] ∧ HabAt CH H h b ∧ HeldV H v o ∧ Q (.str (wayOf b o.isSome z)) H
theorem scWay : FnScope ["habits", "held", "deed"] ["habits", "held", "deed"] (defScope sWay) := ⟨rfl, rfl, rfl, by decide +kernel, rfl, by decide +kernel, by decide +kernel⟩
theorem way_put {b : Hab} {has : Bool} : wayOf b has "put" = if has = true then b.pr else ("make" : Str) := if_pos rfl
theorem way_chg {b : Hab} {has : Bool} : wayOf b has "change" = if has = true then ("merge" : Str) else b.la := by
  unfold wayOf
  rw [if_neg (by decide), if_pos rfl]
theorem way_take {b : Hab} {has : Bool} {z : Str} (h1 : z ≠ "put") (h2 : z ≠ "change") : wayOf b has z = if has = true then b.sh else b.go := by
  unfold wayOf
  rw [if_neg h1, if_neg h2]
theorem held_ite {H : Hp} {v : V} {o : Option (List V × List Int)} {A B : Prop} (h : HeldV H v o) (h1 : o.isSome = false → A) (h2 : o.isSome = true → B) : if decide (v = .non) = true then A else B := by
  rcases h with ⟨rfl, rfl⟩ | ⟨p, r, t, row, fs, rfl, rfl, _⟩
  · exact iteT (h1 rfl)
  · exact iteF (h2 rfl)
theorem ok_way {CH CP CC f : Addr} {fd : FuncData} (F : FnP K "_way" sWay f fd) (T : TxtH K mg CH CP CC) : FnOk P w K mg base CX0 1 f fd ["habits", "held", "deed"] (spWay CH) := by
  obtain ⟨uP, hP⟩ := T.dP
  obtain ⟨uC, hC⟩ := T.dC
  refine F.ok scWay (fun vs H Q E h => ?_) (fun cdv A outer s H vs Q E hr h => ?_)
  · obtain ⟨h, b, v, o, z, rfl, _⟩ := h
    rfl
  · obtain ⟨h, b, v, o, z, rfl, ⟨dx, hh⟩, hv, k⟩ := h
    refine ⟨_, PSs.nox (pss_cons (ps_if (pt_cmpR op_eq (pv 2) (ClX.pe_cval (pe_glob (v := .ref CP) rfl T.gP rfl)) (nomark _)) (pss_one (ps_ret (pe_ifExp (pt_cmpR op_isN (pv 1) pe_non (by rfl)) pe_str (pe_fld (pv 0) (by rfl))))) pss_nil)
      (pss_cons (ps_if (pt_cmpR op_eq (pv 2) (ClX.pe_cval (pe_glob (v := .ref CC) rfl T.gC rfl)) (nomark _)) (pss_one (ps_ret (pe_ifExp (pt_cmpR op_isN (pv 1) pe_non (by rfl)) (pe_fld (pv 0) (by rfl)) pe_str))) pss_nil)
      (pss_one (ps_ret (pe_ifExp (pt_cmpR op_isN (pv 1) pe_non (by rfl)) (pe_fld (pv 0) (by rfl)) (pe_fld (pv 0) (by rfl))))))), ?_⟩
    refine ⟨_, rfl, _, .type "type", _, uP, rfl, T.rP, hP, rfl, _, rfl, str_it (fun e => ?_) (fun e1 => ?_)⟩
    · subst e
      rw [way_put] at k
      refine ⟨_, rfl, rfl, _, rfl, held_ite hv (fun e => ?_) (fun e => ?_)⟩
      · rw [e, if_neg Bool.false_ne_true] at k
        exact k
      · rw [e, if_pos rfl] at k
        exact ⟨_, rfl, h, CH, dx, _, .str b.pr, rfl, hh, T.cl, T.n1, rfl, k⟩
    · refine ⟨_, rfl, _, .type "type", _, uC, rfl, T.rC, hC, rfl, _, rfl, str_it (fun e => ?_) (fun e2 => ?_)⟩
      · subst e
        rw [way_chg] at k
        refine ⟨_, rfl, rfl, _, rfl, held_ite hv (fun e => ?_) (fun e => ?_)⟩
        · rw [e, if_neg Bool.false_ne_true] at k
          exact ⟨_, rfl, h, CH, dx, _, .str b.la, rfl, hh, T.cl, T.n2, rfl, k⟩
        · rw [e, if_pos rfl] at k
          exact k
      · rw [way_take e1 e2] at k
        refine ⟨_, rfl, rfl, _, rfl, held_ite hv (fun e => ?_) (fun e => ?_)⟩
        · rw [e, if_neg Bool.false_ne_true] at k
          exact ⟨_, rfl, h, CH, dx, _, .str b.go, rfl, hh, T.cl, T.n3, rfl, k⟩
        · rw [e, if_pos rfl] at k
          exact ⟨_, rfl, h, CH, dx, _, .str b.sh, rfl, hh, T.cl, T.n4, rfl, k⟩
end
end Lw

set_option Elab.async false
set_option linter.all false
set_option maxRecDepth 100000
set_option maxHeartbeats 40000000
namespace Lw
open PySem PySem.Spec PyProof.Rows L2
abbrev sWritten : Stmt := top 20
abbrev sJoinC : Stmt := top 21
abbrev sTakenC : Stmt := top 22
section
variable {P : Program} {w : World} {K : PySem.W.Frag} {mg : Str → Option Value} {base : Heap}
/-! rows made, holders joined and taken -/
def mrgRow (kvs : List (Key × V)) (cols : List Str) (row : List V) : List V := (cols.zip row).map fun q => (valV kvs (Sum.inr q.1)).getD q.2
def newRow (kvs : List (Key × V)) (cols : List Str) : List V := cols.map fun n => (valV kvs (Sum.inr n)).getD .non
def rowD (o : Option (List V × List Int)) : List V := (o.map (·.1)).getD []
def holdD (o : Option (List V × List Int)) : List Int := (o.map (·.2)).getD []
def writ (way : Str) (kvs : List (Key × V)) (cols : List Str) (o : Option (List V × List Int)) : List V := if way = "keep" then rowD o else if way = "merge" then mrgRow kvs cols (rowD o) else newRow kvs cols
def spWritten : Sp := fun vs H Q _ => ∃ (c d : Addr) (cols : List Str) (v : V) (o : Option (List V × List Int)) (kvs : List (Key × V)) (way : Str), vs = [.ref c, v, .ref d, .str way] ∧ H c = some (.tup (cols.map V.str)) ∧ cols.length ≤ 60 ∧ HeldV H v o ∧ H d = some (.dK kvs) ∧
  (way = "keep" ∨ way = "merge" → ∃ row fs, o = some (row, fs) ∧ row.length = cols.length) ∧ ∀ r G, Same H G → G r = some (.tup (writ way kvs cols o)) → Q (.ref r) G
abbrev nWritten : List Str := ["columns", "held", "cells", "way", "name", "cell"]
theorem scWritten : FnScope nWritten ["columns", "held", "cells", "way"] (defScope sWritten) := ⟨rfl, rfl, rfl, by decide +kernel, rfl, by decide +kernel, by decide +kernel⟩
theorem itTb {b : Bool} {A B : Prop} (h : b = true) (a : A) : if b = true then A else B := by rw [if_pos h]; exact a
theorem itFb {b : Bool} {A B : Prop} (h : b = false) (a : B) : if b = true then A else B := by rw [h, if_neg Bool.false_ne_true]; exact a
theorem take_one {α : Type} {xs : List α} {i : Nat} {x : α} (h : xs[i]? = some x) : xs.take (i + 1) = xs.take i ++ [x] := by rw [List.take_add_one, h]; rfl
theorem ok_written {f : Addr} {fd : FuncData} (F : FnP K "_written" sWritten f fd) (ht : mg "tuple" = none) (hz : mg "zip" = none) (cR : Cal P w K mg base CX0 "row_of" 1 ["held"] spRowOf) : FnOk P w K mg base CX0 2 f fd ["columns", "held", "cells", "way"] spWritten := by
  refine F.ok scWritten (fun vs H Q E h => ?_) (fun cdv A outer s H vs Q E hr h => ?_)
  · obtain ⟨c, d, cols, v, o, kvs, way, rfl, _⟩ := h
    rfl
  · obtain ⟨c, d, cols, v, o, kvs, way, rfl, hc, lc, hv, hd, hw, k⟩ := h
    have nd := scWritten.nd
    have hu := hu_of hr
    have h9 : (60 : Nat) < sizeLine := by decide
    refine ⟨_, PSs.nox (pss_cons (ps_if (pt_cmpR op_eq (pv 3) pe_str (nomark _)) (pss_one (ps_ret (pe_cal cR hr (pa_cons (pv 1) pa_nil)))) pss_nil)
      (pss_cons (ps_if (pt_cmpR op_eq (pv 3) pe_str (nomark _)) (pss_one (ps_ret (pe_callTy call_tuple_of (by rfl) ht (by decide +kernel) (pa_cons (pe_lc (own := [("name", 4), ("cell", 5)]) (g := gTup K 2 (gCons (gName 4) (gCons (gName 5) gNil))) (tt := tYes) rfl nd
          (RZ.pi_zipA (by rfl) hz (pa_cons (pv 0) (pa_cons (pe_cal cR hr (pa_cons (pv 1) pa_nil)) pa_nil))) (blkOk_by (N := nWritten) (sc := defScope sWritten) (by decide +kernel))
          (fun _ _ _ _ _ => pg_tup (by rfl) (pgs_cons (pg_name (i := 4) nd rfl (Or.inl rfl)) (pgs_cons (pg_name (i := 5) nd rfl (Or.inl rfl)) pgs_nil))) (fun _ _ _ _ _ => pts_nil) (fun _ _ _ _ _ => pe_dget2 hu (pv 2) (pv 4) (pv 5) ⟨rfl, rfl, rfl, rfl⟩)) pa_nil)))) pss_nil)
      (pss_one (ps_ret (pe_callTy call_tuple_of (by rfl) ht (by decide +kernel) (pa_cons (pe_lc (own := [("name", 4)]) (g := gName 4) (tt := tYes) rfl nd (pi_tup (pv 0)) (blkOk_by (N := nWritten) (sc := defScope sWritten) (by decide +kernel))
          (fun _ _ _ _ _ => pg_name (i := 4) nd rfl (Or.inl rfl)) (fun _ _ _ _ _ => pts_nil) (fun _ _ _ _ _ => pe_dget1 hu (pv 2) (pv 4) ⟨rfl, rfl, rfl, rfl⟩)) pa_nil)))))), ?_⟩
    refine ⟨_, rfl, rfl, _, rfl, str_it (fun e => ?_) (fun e1 => ?_)⟩
    · subst e
      obtain ⟨row, fs, rfl, hl⟩ := hw (.inl rfl)
      refine ⟨_, rfl, v, _, rfl, hv, fun x hx => ?_⟩
      rcases hx with ⟨_, e⟩ | ⟨r, row', rfl, e, hr'⟩
      · cases e
      · cases e
        exact k r H (Same.refl H) hr'
    · refine ⟨_, rfl, rfl, _, rfl, str_it (fun e => ?_) (fun e2 => ?_)⟩
      · subst e
        obtain ⟨row, fs, rfl, hl⟩ := hw (.inr rfl)
        have ew : writ "merge" kvs cols (some (row, fs)) = mrgRow kvs cols row := by
          unfold writ
          rw [if_neg e1, if_pos rfl]
          rfl
        rw [ew] at k
        refine ⟨_, rfl, _, rfl, v, _, rfl, hv, fun x hx => ?_⟩
        rcases hx with ⟨_, e⟩ | ⟨r, row', rfl, e, hr'⟩
        · cases e
        cases e
        refine ⟨c, r, cols.map V.str, row, rfl, .inr ⟨SqT.of hc, SqT.of hr', fun D nD => ?_⟩⟩
        have zl : (cols.zip row).length = min (cols.map V.str).length row.length := by rw [List.length_zip, List.length_map]
        refine lc_it (Zw.walk_zt zl) (fun i G => Same H G ∧ G D = some (.lst (((cols.zip row).take i).map fun q => (valV kvs (Sum.inr q.1)).getD q.2))) ⟨Lw.Same.new (Same.refl H) nD, upd_same⟩ (fun i G _ h => ⟨SqT.of (h.1 _ _ hc), SqT.of (h.1 _ _ hr')⟩) ?_ ?_
        · rintro i x G G' hi ⟨sG, gD⟩ ⟨T, x1, y1, rfl, nT, rfl, g1, g2⟩
          have g0 : (cols.map V.str)[i]? = some x1 := g1
          rw [List.getElem?_map] at g0
          obtain ⟨n, hn, rfl⟩ := Option.map_eq_some_iff.mp g0
          have sT : Same G (upd G T (.tup [.str n, y1])) := Lw.Same.new (Same.refl G) nT
          have g3 : (cols.zip row)[i]? = some (n, y1) := by rw [List.getElem?_zip_eq_some]; exact ⟨hn, g2⟩
          have dd := sT _ _ (sG _ _ hd)
          refine ⟨T, _, rfl, SqT.of upd_same, rfl, _, _, rfl, _, _, rfl, rfl, rfl, _, rfl, d, rfl, .inl ⟨kvs, .inl dd⟩, _, rfl, _, rfl, _, .inl ⟨kvs, Sum.inr n, .inl dd, rfl, rfl⟩, _, sT _ _ gD, ?_, same_at nD (sG.trans sT), ?_⟩
          · rw [List.length_map, List.length_take]
            exact Nat.lt_of_le_of_lt (Nat.min_le_right _ _) (by rw [List.length_zip]; exact Nat.lt_of_le_of_lt (Nat.le_trans (Nat.min_le_left _ _) lc) h9)
          · rw [upd_same, take_one g3, List.map_append]
            rfl
        · rintro G ⟨sG, gD⟩
          rw [List.take_length] at gD
          exact ⟨D, _, rfl, .inl ⟨SqL.of gD, fun t nt => k t _ (sG.trans (Lw.Same.new (Same.refl G) nt)) upd_same⟩⟩
      · have ew : writ way kvs cols o = newRow kvs cols := by
          unfold writ
          rw [if_neg e1, if_neg e2]
        rw [ew] at k
        refine ⟨_, rfl, c, rfl, ⟨_, SqT.of hc⟩, fun D nD => ?_⟩
        refine lc_tup (xs := cols.map V.str) (fun i G => Same H G ∧ G D = some (.lst ((cols.take i).map fun n => (valV kvs (Sum.inr n)).getD .non))) ⟨Lw.Same.new (Same.refl H) nD, upd_same⟩ (fun i G _ h => SqT.of (h.1 _ _ hc)) ?_ ?_
        · rintro i x G g1 ⟨sG, gD⟩
          rw [List.getElem?_map] at g1
          obtain ⟨n, hn, rfl⟩ := Option.map_eq_some_iff.mp g1
          have dd := sG _ _ hd
          refine ⟨rfl, _, rfl, d, rfl, .inl ⟨kvs, .inl dd⟩, _, rfl, _, .inl ⟨kvs, Sum.inr n, .inl dd, rfl, rfl⟩, _, gD, ?_, same_at nD sG, ?_⟩
          · rw [List.length_map, List.length_take]
            exact Nat.lt_of_le_of_lt (Nat.min_le_right _ _) (Nat.lt_of_le_of_lt lc h9)
          · rw [upd_same, take_one hn, List.map_append]
            rfl
        · rintro G ⟨sG, gD⟩
          rw [List.length_map, List.take_length] at gD
          exact ⟨D, _, rfl, .inl ⟨SqL.of gD, fun t nt => k t _ (sG.trans (Lw.Same.new (Same.refl G) nt)) upd_same⟩⟩
theorem inKeys_iff {κ : Type} {inst : DecidableEq κ} {ks : List κ} {k : κ} : @St.inKeys κ inst ks k = true ↔ k ∈ ks := decide_eq_true_iff
def spJoinC : Sp := fun vs H Q _ => ∃ (v : V) (f : Int) (o : Option (List V × List Int)), vs = [v, .int f] ∧ HeldV H v o ∧ (holdD o).length ≤ 50 ∧ ∀ (t : Addr) (ys : List Int) (G : Hp), Same H G → G t = some (.tup (ys.map V.int)) → ys.Pairwise (· ≤ ·) → ys.Nodup → (∀ z, z ∈ ys ↔ z = f ∨ z ∈ holdD o) → Q (.ref t) G
theorem scJoinC : FnScope ["held", "feed", "holders"] ["held", "feed"] (defScope sJoinC) := ⟨rfl, rfl, rfl, by decide +kernel, rfl, by decide +kernel, by decide +kernel⟩
theorem ok_joinC {f : Addr} {fd : FuncData} (F : FnP K "_joined" sJoinC f fd) (ht : mg "tuple" = none) (hs : mg "sorted" = none) (hset : mg "set" = none) : FnOk P w K mg base CX0 1 f fd ["held", "feed"] spJoinC := by
  refine F.ok scJoinC (fun vs H Q E h => ?_) (fun cdv A outer s H vs Q E hr h => ?_)
  · obtain ⟨v, fe, o, rfl, _⟩ := h
    rfl
  · obtain ⟨v, fe, o, rfl, hv, lo, k⟩ := h
    have nd := scJoinC.nd
    have h9 : (60 : Nat) < sizeLine := by decide
    refine ⟨_, PSs.nox (pss_cons (ps_set (i := 2) nd rfl (Or.inl rfl) (pe_ifExp (pt_cmpR op_isN (pv 0) pe_non (by rfl)) (pe_tup pa_nil) (pe_ix (by exact ix_tup) (pv 0) pe_int (fun _ _ => rfl))))
      (pss_one (ps_ret (pe_callTy call_tuple_of (by rfl) ht (by decide +kernel) (pa_cons (pe_callB (St.cr_sortSI rfl) (by rfl) hs (by decide +kernel) (pa_cons (pe_callTy (St.cr_setOf rfl) (by rfl) hset (by decide +kernel) (pa_cons (pe_lst (StX.pa_star (pv 2) (pa_cons (pv 1) pa_nil))) pa_nil)) pa_nil)) pa_nil))))), ?_⟩
    refine sq_set (fun x G => ∃ t, x = .ref t ∧ Same H G ∧ G t = some (.tup ((holdD o).map V.int))) (fun Q q => ?_) ?_
    · rcases hv with ⟨rfl, rfl⟩ | ⟨p, r, t, row, fs, rfl, rfl, h1, h2, h3⟩
      · exact ⟨_, rfl, rfl, _, rfl, iteT ⟨Nat.zero_le _, fun t nt => q _ _ ⟨t, rfl, Lw.Same.new (Same.refl H) nt, upd_same⟩⟩⟩
      · exact ⟨_, rfl, rfl, _, rfl, iteF ⟨_, rfl, p, _, 1, .ref t, rfl, rfl, SqT.of h1, rfl, q _ _ ⟨t, rfl, Same.refl H, h3⟩⟩⟩
    rintro _ G ⟨t, rfl, sG, gt⟩
    have le : (((holdD o).map V.int) ++ [V.int fe]).length ≤ 51 := by
      rw [List.length_append, List.length_map, List.length_singleton]
      omega
    have ek : ((holdD o).map V.int) ++ [V.int fe] = (((holdD o) ++ [fe]).map (Sum.inl : Int → Key)).map kV := by
      rw [List.map_map, List.map_append]
      rfl
    refine ⟨_, rfl, t, _, rfl, .inl (SqT.of gt), _, rfl, Nat.le_trans le (by decide), fun l nl => ?_⟩
    refine ⟨l, ((holdD o) ++ [fe]).map Sum.inl, rfl, .inl ?_, ?_, fun p n np ln => ?_⟩
    · rw [← ek]
      exact SqL.of upd_same
    · rw [List.length_map, List.length_append, List.length_singleton]
      omega
    have s1 := Lw.Same.new (o := .lst (((holdD o).map V.int) ++ [V.int fe])) (Same.refl G) nl
    refine ⟨p, _, n, rfl, upd_same, ?_, fun key hk => ?_, fun ys u nu so ny my ly => ?_⟩
    · rw [List.length_map, List.length_append, List.length_singleton] at ln
      omega
    · have hm : key ∈ ((holdD o) ++ [fe]).map (Sum.inl : Int → Key) := inKeys_iff.mp hk
      obtain ⟨z, _, e⟩ := List.mem_map.mp hm
      exact ⟨z, e.symm⟩
    · have s2 := Lw.Same.new (o := St.KS P w p (St.inKeys (((holdD o) ++ [fe]).map Sum.inl)) n) (Same.refl _) np
      have s3 := Lw.Same.new (o := .lst (ys.map V.int)) (Same.refl _) nu
      refine ⟨u, _, rfl, .inl ⟨SqL.of upd_same, fun t2 nt2 => ?_⟩⟩
      refine k t2 ys _ (sG.trans (s1.trans (s2.trans (s3.trans (Lw.Same.new (Same.refl _) nt2))))) upd_same so ny fun z => ?_
      rw [my z]
      rw [inKeys_iff, List.mem_map]
      constructor
      · rintro ⟨y, hy, e⟩
        cases e
        rcases List.mem_append.mp hy with h | h
        · exact .inr h
        · exact .inl (List.mem_singleton.mp h)
      · rintro (rfl | h)
        · exact ⟨z, List.mem_append_right _ (List.mem_singleton.mpr rfl), rfl⟩
        · exact ⟨z, List.mem_append_left _ h, rfl⟩
def leftOf (f : Int) (fs : List Int) : List Int := fs.filter fun z => !decide (z = f)
def takenO (way : Str) (f : Int) (row : List V) (fs : List Int) : Option (List V × List Int) := if way = "all" ∧ leftOf f fs ≠ [] then some (row, leftOf f fs) else none
def spTakenC : Sp := fun vs H Q _ => ∃ (p : Addr) (f : Int) (way : Str) (row : List V) (fs : List Int), vs = [.ref p, .int f, .str way] ∧ HeldV H (.ref p) (some (row, fs)) ∧ fs.length ≤ 1000 ∧ ∀ x G, Same H G → HeldV G x (takenO way f row fs) → Q x G
abbrev nTakenC : List Str := ["held", "feed", "way", "row", "holders", "left", "holder"]
theorem scTakenC : FnScope nTakenC ["held", "feed", "way"] (defScope sTakenC) := ⟨rfl, rfl, rfl, by decide +kernel, rfl, by decide +kernel, by decide +kernel⟩
theorem ok_takenC {f : Addr} {fd : FuncData} (F : FnP K "_taken" sTakenC f fd) (ht : mg "tuple" = none) : FnOk P w K mg base CX0 1 f fd ["held", "feed", "way"] spTakenC := by
  refine F.ok scTakenC (fun vs H Q E h => ?_) (fun cdv A outer s H vs Q E hr h => ?_)
  · obtain ⟨p, fe, way, row, fs, rfl, _⟩ := h
    rfl
  · obtain ⟨p, fe, way, row, fs, rfl, hv, lf, k⟩ := h
    have nd := scTakenC.nd
    have h9 : (1000 : Nat) < sizeLine := by decide
    refine ⟨_, PSs.nox (pss_cons (ps_asg (pv 0) (pg_tup (by rfl) (pgs_cons (pg_name (i := 3) nd rfl (Or.inl rfl)) (pgs_cons (pg_name (i := 4) nd rfl (Or.inl rfl)) pgs_nil))))
      (pss_cons (ps_set (i := 5) nd rfl (Or.inl rfl) (pe_callTy call_tuple_of (by rfl) ht (by decide +kernel) (pa_cons (pe_lc (own := [("holder", 6)]) (g := gName 6) rfl nd (pi_tup (pv 4)) (blkOk_by (N := nTakenC) (sc := defScope sTakenC) (by decide +kernel))
          (fun _ _ _ _ _ => pg_name (i := 6) nd rfl (Or.inl rfl)) (fun _ _ _ _ _ => pts_one (pt_cmpR op_ne (pv 6) (pv 1) (nomark _))) (fun _ _ _ _ _ => pv 6)) pa_nil)))
      (pss_one (ps_ret (pe_ifExp (PW.pt (pw_and (pt_cmpR op_eq (pv 2) pe_str (nomark _)) (pw_and1 (pt_truth (pv 5) (fun _ => rfl))))) (pe_tup (pa_cons (pv 3) (pa_cons (pv 5) pa_nil))) pe_non))))), ?_⟩
    rcases hv with ⟨e, _⟩ | ⟨p', r, t, row', fs', e, e', h1, h2, h3⟩
    · cases e
    cases e
    cases e'
    refine ⟨_, rfl, p, _, rfl, SqT.of h1, rfl, _, _, rfl, _, _, rfl, rfl, ?_⟩
    dsimp only
    refine sq_set (fun x G => ∃ u, x = .ref u ∧ Same H G ∧ G u = some (.tup ((leftOf fe fs).map V.int))) (fun Q q => ?_) ?_
    · refine ⟨_, rfl, t, rfl, ⟨_, SqT.of h3⟩, fun D nD => ?_⟩
      refine lc_tup (xs := fs.map V.int) (fun i G => Same H G ∧ G D = some (.lst ((leftOf fe (fs.take i)).map V.int))) ⟨Lw.Same.new (Same.refl H) nD, upd_same⟩ (fun i G _ h => SqT.of (h.1 _ _ h3)) ?_ ?_
      · rintro i x G g1 ⟨sG, gD⟩
        rw [List.getElem?_map] at g1
        obtain ⟨z, hz, rfl⟩ := Option.map_eq_some_iff.mp g1
        have et : leftOf fe (fs.take (i + 1)) = leftOf fe (fs.take i) ++ leftOf fe [z] := by
          unfold leftOf
          rw [take_one hz, List.filter_append]
        refine ⟨rfl, _, rfl, _, rfl, rfl, _, rfl, ?_⟩
        by_cases hzf : z = fe
        · refine itFb (by rw [decide_eq_true (by rw [hzf])]; rfl) ?_
          refine ⟨sG, ?_⟩
          rw [et, gD]
          subst hzf
          simp [leftOf]
        · refine itTb (by rw [decide_eq_false fun e => hzf (V.int.inj e)]; rfl) ?_
          refine ⟨_, rfl, _, gD, ?_, same_at nD sG, ?_⟩
          · rw [List.length_map]
            exact Nat.lt_of_le_of_lt (Nat.le_trans (List.length_filter_le _ _) (by rw [List.length_take]; exact Nat.le_trans (Nat.min_le_right _ _) lf)) h9
          · rw [upd_same, et, List.map_append]
            simp [leftOf, hzf]
      · rintro G ⟨sG, gD⟩
        rw [List.length_map, List.take_length] at gD
        exact ⟨D, _, rfl, .inl ⟨SqL.of gD, fun u nu => q _ _ ⟨u, rfl, sG.trans (Lw.Same.new (Same.refl G) nu), upd_same⟩⟩⟩
    rintro _ G ⟨u, rfl, sG, gu⟩
    refine ⟨_, rfl, rfl, _, rfl, str_it (fun e => ?_) (fun e => ?_)⟩
    · refine ⟨_, rfl, !((leftOf fe fs).map V.int).isEmpty, .inr (.inl ⟨_, SqT.of gu, rfl⟩), ?_⟩
      by_cases hl : leftOf fe fs = []
      · refine itFb (by rw [hl]; rfl) ?_
        exact k .non G sG (.inl ⟨rfl, if_neg fun h => h.2 hl⟩)
      · refine itTb (by cases h : leftOf fe fs with | nil => exact absurd h hl | cons a l => rfl) ?_
        refine ⟨_, rfl, _, rfl, (by show 2 ≤ sizeLine; decide), fun q nq => ?_⟩
        have sq := Lw.Same.new (o := .tup [.ref r, .ref u]) (Same.refl G) nq
        exact k (.ref q) _ (sG.trans sq) (.inr ⟨q, r, u, row, leftOf fe fs, rfl, if_pos ⟨e, hl⟩, upd_same, sq _ _ (sG _ _ h2), sq _ _ gu⟩)
    · exact k .non G sG (.inl ⟨rfl, if_neg fun h => e h.1⟩)
end
end Lw

set_option Elab.async false
set_option linter.all false
set_option maxRecDepth 100000
set_option maxHeartbeats 40000000
namespace Lw
open PySem PySem.Spec PyProof.Rows L2
abbrev sPutI : Stmt := inClass (top 10) 1
abbrev sChgI : Stmt := inClass (top 11) 1
abbrev sTakeI : Stmt := inClass (top 12) 1
abbrev sPutC : Stmt := inClass (top 10) 2
abbrev sChgC : Stmt := inClass (top 11) 2
abbrev sTakeC : Stmt := inClass (top 12) 2
abbrev sMessage : Stmt := top 36
section
variable {P : Program} {w : World} {K : PySem.W.Frag} {mg : Str → Option Value} {base : Heap}
/-! messages -/
structure TxtC1 (K : PySem.W.Frag) (C : Addr) : Prop where
  cl : Cls K C
  nK : NoAttr K C "key"
  ha : PySem.W.findIn K (.ref C) "__class__" = some (some (.builtin "object.__class__"))
  hn : PySem.W.specialIn K (.builtin "object.__class__") "__get__" = some (some (.builtin "getset_descriptor.__get__"))
  ht : PySem.W.takesIn K (.builtin "object.__class__") = some true
  hm : PySem.W.mroIn K C (.type "object") = some true
def clsOf (CP CC CT : Addr) (z : Str) : Addr := if z = "put" then CP else if z = "change" then CC else CT
/-- a message, made since N -/
def Msg (CP CC CT : Addr) (N H : Hp) (m : Addr) (z : Str) (key : Int) (kvs : List (Key × V)) : Prop := N m = none ∧ ((z = "take" ∧ kvs = [] ∧ ∃ dx, H m = some (.ins CT dx [("key", .int key)])) ∨
  ((z = "put" ∨ z = "change") ∧ ∃ dx d, N d = none ∧ H m = some (.ins (clsOf CP CC CT z) dx [("key", .int key), ("_cells", .ref d)]) ∧ H d = some (.dK kvs)))
theorem Msg.same {CP CC CT : Addr} {N H G : Hp} {m : Addr} {z : Str} {key : Int} {kvs : List (Key × V)} (s : Same H G) (h : Msg CP CC CT N H m z key kvs) : Msg CP CC CT N G m z key kvs := by
  obtain ⟨n, h | ⟨hz, dx, d, nd, h1, h2⟩⟩ := h
  · obtain ⟨e1, e2, dx, h1⟩ := h
    exact ⟨n, .inl ⟨e1, e2, dx, s _ _ h1⟩⟩
  · exact ⟨n, .inr ⟨hz, dx, d, nd, s _ _ h1, s _ _ h2⟩⟩
theorem Msg.old {CP CC CT : Addr} {N M H : Hp} {m : Addr} {z : Str} {key : Int} {kvs : List (Key × V)} (s : Same M N) (h : Msg CP CC CT N H m z key kvs) : Msg CP CC CT M H m z key kvs := by
  obtain ⟨n, h | ⟨hz, dx, d, nd, h1, h2⟩⟩ := h
  · exact ⟨none_of_same s n, .inl h⟩
  · exact ⟨none_of_same s n, .inr ⟨hz, dx, d, none_of_same s nd, h1, h2⟩⟩
theorem Msg.upd {CP CC CT : Addr} {N H : Hp} {m : Addr} {z : Str} {key : Int} {kvs : List (Key × V)} {a : Addr} {o o2 : HO} (n : N a = some o) (h : Msg CP CC CT N H m z key kvs) : Msg CP CC CT N (upd H a o2) m z key kvs := by
  obtain ⟨nm, h | ⟨hz, dx, d, nd, h1, h2⟩⟩ := h
  · obtain ⟨e1, e2, dx, h1⟩ := h
    exact ⟨nm, .inl ⟨e1, e2, dx, by rw [upd_ne (ne_of_none n nm).symm]; exact h1⟩⟩
  · exact ⟨nm, .inr ⟨hz, dx, d, nd, by rw [upd_ne (ne_of_none n nm).symm]; exact h1, by rw [upd_ne (ne_of_none n nd).symm]; exact h2⟩⟩
def spMI (C : Addr) : Sp := fun vs H Q _ => ∃ (p dx c : Addr) (key : Int) (kvs : List (Key × V)), vs = [.ref p, .int key, .ref c] ∧ H p = some (.ins C dx []) ∧ H c = some (.dK kvs) ∧
  ∀ d, H d = none → Q .non (upd (upd (upd H p (.ins C dx [("key", .int key)])) d (.dK kvs)) p (.ins C dx [("key", .int key), ("_cells", .ref d)]))
theorem scPutI : FnScope ["self", "key", "cells"] ["self", "key", "cells"] (defScope sPutI) := ⟨rfl, rfl, rfl, by decide +kernel, rfl, by decide +kernel, by decide +kernel⟩
theorem ok_putI {C f : Addr} {fd : FuncData} (F : MethD K "__init__" "Put.__init__" sPutI f fd) (T : TxtC1 K C) (nC : NoAttr K C "_cells") (hd : mg "dict" = none) : FnOk P w K mg base CX0 1 f fd ["self", "key", "cells"] (spMI C) := by
  refine F.ok scPutI (fun vs H Q E h => ?_) (fun cdv A outer s H vs Q E hr h => ?_)
  · obtain ⟨p, dx, c, key, kvs, rfl, _⟩ := h
    rfl
  · obtain ⟨p, dx, c, key, kvs, rfl, hp, hc, k⟩ := h
    refine ⟨_, PSs.nox (pss_cons (ps_fld (pv 0) (pv 1) rfl) (pss_one (ps_fld (pv 0) (pe_callTy call_dictD (by rfl) hd (by decide +kernel) (pa_cons (pv 2) pa_nil)) rfl))), ?_⟩
    have ne : c ≠ p := fun z => by subst z; rw [hp] at hc; cases hc
    refine ⟨_, rfl, _, rfl, p, C, dx, _, rfl, hp, T.cl, T.nK, (by show 0 < 1000; decide), ?_⟩
    refine ⟨_, rfl, c, kvs, rfl, .inl (by rw [upd_ne ne]; exact hc), fun d nd => ?_⟩
    have ndp : d ≠ p := fun z => by subst z; rw [upd_same] at nd; cases nd
    refine ⟨_, rfl, p, C, dx, _, rfl, (by rw [upd_ne ndp.symm]; exact upd_same), T.cl, nC, (by show 1 < 1000; decide), ?_⟩
    rw [upd_ne ndp] at nd
    exact k d nd
theorem scChgI : FnScope ["self", "key", "cells"] ["self", "key", "cells"] (defScope sChgI) := ⟨rfl, rfl, rfl, by decide +kernel, rfl, by decide +kernel, by decide +kernel⟩
theorem ok_chgI {C f : Addr} {fd : FuncData} (F : MethD K "__init__" "Change.__init__" sChgI f fd) (T : TxtC1 K C) (nC : NoAttr K C "_cells") (hd : mg "dict" = none) : FnOk P w K mg base CX0 1 f fd ["self", "key", "cells"] (spMI C) := by
  refine F.ok scChgI (fun vs H Q E h => ?_) (fun cdv A outer s H vs Q E hr h => ?_)
  · obtain ⟨p, dx, c, key, kvs, rfl, _⟩ := h
    rfl
  · obtain ⟨p, dx, c, key, kvs, rfl, hp, hc, k⟩ := h
    refine ⟨_, PSs.nox (pss_cons (ps_fld (pv 0) (pv 1) rfl) (pss_one (ps_fld (pv 0) (pe_callTy call_dictD (by rfl) hd (by decide +kernel) (pa_cons (pv 2) pa_nil)) rfl))), ?_⟩
    have ne : c ≠ p := fun z => by subst z; rw [hp] at hc; cases hc
    refine ⟨_, rfl, _, rfl, p, C, dx, _, rfl, hp, T.cl, T.nK, (by show 0 < 1000; decide), ?_⟩
    refine ⟨_, rfl, c, kvs, rfl, .inl (by rw [upd_ne ne]; exact hc), fun d nd => ?_⟩
    have ndp : d ≠ p := fun z => by subst z; rw [upd_same] at nd; cases nd
    refine ⟨_, rfl, p, C, dx, _, rfl, (by rw [upd_ne ndp.symm]; exact upd_same), T.cl, nC, (by show 1 < 1000; decide), ?_⟩
    rw [upd_ne ndp] at nd
    exact k d nd
theorem scTakeI : FnScope ["self", "key"] ["self", "key"] (defScope sTakeI) := ⟨rfl, rfl, rfl, by decide +kernel, rfl, by decide +kernel, by decide +kernel⟩
def spTI (C : Addr) : Sp := fun vs H Q _ => ∃ (p dx : Addr) (key : Int), vs = [.ref p, .int key] ∧ H p = some (.ins C dx []) ∧ Q .non (upd H p (.ins C dx [("key", .int key)]))
theorem ok_takeI {C f : Addr} {fd : FuncData} (F : MethD K "__init__" "Take.__init__" sTakeI f fd) (T : TxtC1 K C) : FnOk P w K mg base CX0 1 f fd ["self", "key"] (spTI C) := by
  refine F.ok scTakeI (fun vs H Q E h => ?_) (fun cdv A outer s H vs Q E hr h => ?_)
  · obtain ⟨p, dx, key, rfl, _⟩ := h
    rfl
  · obtain ⟨p, dx, key, rfl, hp, k⟩ := h
    refine ⟨_, PSs.nox (pss_one (ps_fld (pv 0) (pv 1) rfl)), ?_⟩
    exact ⟨_, rfl, _, rfl, p, C, dx, _, rfl, hp, T.cl, T.nK, (by show 0 < 1000; decide), k⟩
/-! the cells of a message -/
def spCel (C : Addr) : Sp := fun vs H Q _ => ∃ (p dx d : Addr) (key : Int) (kvs : List (Key × V)), vs = [.ref p] ∧ H p = some (.ins C dx [("key", .int key), ("_cells", .ref d)]) ∧ H d = some (.dK kvs) ∧ ∀ q, H q = none → Q (.ref q) (upd H q (.dK kvs))
def spCel0 : Sp := fun vs H Q _ => ∃ (p : Addr), vs = [.ref p] ∧ ∀ q, H q = none → Q (.ref q) (upd H q (.dK []))
theorem scPutC : FnScope ["self"] ["self"] (defScope sPutC) := ⟨rfl, rfl, rfl, by decide +kernel, rfl, by decide +kernel, by decide +kernel⟩
theorem ok_putC {C f : Addr} {fd : FuncData} (F : MethD K "cells" "Put.cells" sPutC f fd) (T : TxtC1 K C) (nC : NoAttr K C "_cells") (hd : mg "dict" = none) : FnOk P w K mg base CX0 1 f fd ["self"] (spCel C) := by
  refine F.ok scPutC (fun vs H Q E h => ?_) (fun cdv A outer s H vs Q E hr h => ?_)
  · obtain ⟨p, dx, d, key, kvs, rfl, _⟩ := h
    rfl
  · obtain ⟨p, dx, d, key, kvs, rfl, hp, hc, k⟩ := h
    refine ⟨_, PSs.nox (pss_one (ps_ret (pe_callTy call_dictD (by rfl) hd (by decide +kernel) (pa_cons (pe_fld (pv 0) (by rfl)) pa_nil)))), ?_⟩
    exact ⟨_, rfl, p, C, dx, _, .ref d, rfl, hp, T.cl, nC, rfl, d, kvs, rfl, .inl hc, fun q nq => k q nq⟩
theorem scChgC : FnScope ["self"] ["self"] (defScope sChgC) := ⟨rfl, rfl, rfl, by decide +kernel, rfl, by decide +kernel, by decide +kernel⟩
theorem ok_chgC {C f : Addr} {fd : FuncData} (F : MethD K "cells" "Change.cells" sChgC f fd) (T : TxtC1 K C) (nC : NoAttr K C "_cells") (hd : mg "dict" = none) : FnOk P w K mg base CX0 1 f fd ["self"] (spCel C) := by
  refine F.ok scChgC (fun vs H Q E h => ?_) (fun cdv A outer s H vs Q E hr h => ?_)
  · obtain ⟨p, dx, d, key, kvs, rfl, _⟩ := h
    rfl
  · obtain ⟨p, dx, d, key, kvs, rfl, hp, hc, k⟩ := h
    refine ⟨_, PSs.nox (pss_one (ps_ret (pe_callTy call_dictD (by rfl) hd (by decide +kernel) (pa_cons (pe_fld (pv 0) (by rfl)) pa_nil)))), ?_⟩
    exact ⟨_, rfl, p, C, dx, _, .ref d, rfl, hp, T.cl, nC, rfl, d, kvs, rfl, .inl hc, fun q nq => k q nq⟩
theorem scTakeC : FnScope ["self"] ["self"] (defScope sTakeC) := ⟨rfl, rfl, rfl, by decide +kernel, rfl, by decide +kernel, by decide +kernel⟩
theorem ok_takeC {f : Addr} {fd : FuncData} (F : MethD K "cells" "Take.cells" sTakeC f fd) : FnOk P w K mg base CX0 1 f fd ["self"] spCel0 := by
  refine F.ok scTakeC (fun vs H Q E h => ?_) (fun cdv A outer s H vs Q E hr h => ?_)
  · obtain ⟨p, rfl, _⟩ := h
    rfl
  · obtain ⟨p, rfl, k⟩ := h
    refine ⟨_, PSs.nox (pss_one (ps_ret pe_dnewK)), ?_⟩
    exact fun q nq => k q nq
/-- Put(key, cells) and Change(key, cells), made -/
theorem msg_new {CP CC CT c : Addr} {z : Str} {key : Int} {kvs : List (Key × V)} {H : Hp} {R : Addr → Hp → Prop} {E : XK} (hz : z = "put" ∨ z = "change") (hc : H c = some (.dK kvs)) (k : ∀ p G, H p = none → Same H G → Msg CP CC CT H G p z key kvs → R p G) :
    ∀ x dx, H x = none → H dx = none → dx ≠ x → spMI (clsOf CP CC CT z) [.ref x, .int key, .ref c] (upd (upd H dx (.own x)) x (.ins (clsOf CP CC CT z) dx [])) (fun v H2 => v = .non ∧ R x H2) E := fun x dx nx nd ne => by
  refine ⟨x, dx, c, key, kvs, rfl, upd_same, by rw [upd_ne (ne_of_none hc nx), upd_ne (ne_of_none hc nd)]; exact hc, fun d hd => ⟨rfl, ?_⟩⟩
  have dx' : d ≠ x := fun z => by subst z; rw [upd_same] at hd; cases hd
  have ndd : H d = none := by
    rw [upd_ne dx'] at hd
    cases e : H d with
    | none => rfl
    | some o => rw [upd_ne (ne_of_none e nd)] at hd; rw [e] at hd; cases hd
  have s : Same H (upd (upd (upd (upd (upd H dx (.own x)) x (.ins (clsOf CP CC CT z) dx [])) x (.ins (clsOf CP CC CT z) dx [("key", .int key)])) d (.dK kvs)) x (.ins (clsOf CP CC CT z) dx [("key", .int key), ("_cells", .ref d)])) :=
    same_at nx (same_at ndd (same_at nx (same_at nx (same_at nd (Same.refl H)))))
  exact k x _ nx s ⟨nx, .inr ⟨hz, dx, d, ndd, upd_same, by rw [upd_ne dx', upd_same]⟩⟩
theorem take_new {CP CC CT : Addr} {key : Int} {H : Hp} {R : Addr → Hp → Prop} {E : XK} (k : ∀ p G, H p = none → Same H G → Msg CP CC CT H G p "take" key [] → R p G) :
    ∀ x dx, H x = none → H dx = none → dx ≠ x → spTI CT [.ref x, .int key] (upd (upd H dx (.own x)) x (.ins CT dx [])) (fun v H2 => v = .non ∧ R x H2) E := fun x dx nx nd ne =>
  ⟨x, dx, key, rfl, upd_same, rfl, k x _ nx (same_at nx (same_at nx (same_at nd (Same.refl H)))) ⟨nx, .inl ⟨rfl, rfl, dx, upd_same⟩⟩⟩
/-! what the law asks of one message -/
def deeds : List Str := ["put", "change", "take"]
structure ClsZ (K : PySem.W.Frag) (CP CC CT CM : Addr) (z : Str) : Prop where
  T : TxtC1 K (clsOf CP CC CT z)
  con : ∃ u, Con K (clsOf CP CC CT z) "deed" (.str z) u
  kM : PySem.W.kitOne K (.ref (clsOf CP CC CT z)) (.ref CM) = some true
  kP : PySem.W.kitOne K (.ref (clsOf CP CC CT z)) (.ref CP) = some (decide (z = "put"))
  kC : PySem.W.kitOne K (.ref (clsOf CP CC CT z)) (.ref CC) = some (decide (z = "change"))
  kT : PySem.W.kitOne K (.ref (clsOf CP CC CT z)) (.ref CT) = some (decide (z = "take"))
structure PrpF (P : Program) (w : World) (K : PySem.W.Frag) (mg : Str → Option Value) (base : Heap) (C : Addr) (sp : Sp) : Prop where
  cl : Cls K C
  ex : ∃ p g fd, PropOf K C "cells" p g ∧ FnOk P w K mg base CX0 1 g fd ["self"] sp ∧ Binds K fd ["self"] []
structure MsF (P : Program) (w : World) (K : PySem.W.Frag) (mg : Str → Option Value) (base : Heap) (CP CC CT CM : Addr) : Prop where
  one : ∀ z ∈ deeds, ClsZ K CP CC CT CM z
  pP : PrpF P w K mg base CP (spCel CP)
  pC : PrpF P w K mg base CC (spCel CC)
  pT : PrpF P w K mg base CT spCel0
  gM : mg "Message" = some (.ref CM)
  gP : mg "Put" = some (.ref CP)
  gC : mg "Change" = some (.ref CC)
  gT : mg "Take" = some (.ref CT)
theorem Msg.at {CP CC CT : Addr} {N H : Hp} {m : Addr} {z : Str} {key : Int} {kvs : List (Key × V)} (h : Msg CP CC CT N H m z key kvs) : z ∈ deeds ∧ ∃ dx fs, H m = some (.ins (clsOf CP CC CT z) dx (("key", .int key) :: fs)) ∧ (("key", .int key) :: fs : List (Str × V)).lookup ("deed" : Str) = none := by
  obtain ⟨n, h | ⟨hz, dx, d, nd, h1, h2⟩⟩ := h
  · obtain ⟨rfl, _, dx, h1⟩ := h
    exact ⟨by decide, dx, [], h1, rfl⟩
  · refine ⟨?_, dx, _, h1, rfl⟩
    rcases hz with rfl | rfl <;> decide
def spRight (CP CC CT : Addr) : Sp := fun vs H Q _ => ∃ (m c : Addr) (z : Str) (key : Int) (N : Hp) (kvs0 kvs : List (Key × V)), vs = [.ref m, .str z, .int key, .ref c] ∧ Msg CP CC CT N H m z key kvs0 ∧ H c = some (.dK kvs) ∧ RowOk kvs ∧ (z ≠ "take" → kvs0 = kvs) ∧ ∀ G, Same H G → Q (.bl true) G
/-- the cells of a message, read -/
def tCells (CP CC CT : Addr) (ta : TE) : TE := fun σ H Q => tProp CP (spCel CP) [] E0 ta σ H Q ∨ (tProp CC (spCel CC) [] E0 ta σ H Q ∨ tProp CT spCel0 [] E0 ta σ H Q)
theorem pe_cells {X : Cx} {CP CC CT CM : Addr} {e : Expr} {pos : Pos} {ta : TE} (M : MsF X.prog X.w X.K X.mg X.base CP CC CT CM) (he : PE X e ta) (hr : Room 2 X.A) (hab : attributeBase e "cells" X.env (eval e X.env) = eval e X.env) : PE X (.Attribute e "cells" pos) (tCells CP CC CT ta) := by
  obtain ⟨p1, g1, f1, h1, F1, b1⟩ := M.pP.ex
  obtain ⟨p2, g2, f2, h2, F2, b2⟩ := M.pC.ex
  obtain ⟨p3, g3, f3, h3, F3, b3⟩ := M.pT.ex
  exact pe_or (pe_prop he M.pP.cl h1 F1 hr b1 .nil pass0 hab) (pe_or (pe_prop he M.pC.cl h2 F2 hr b2 .nil pass0 hab) (pe_prop he M.pT.cl h3 F3 hr b3 .nil pass0 hab))
/-- what it comes to -/
theorem cells_of {CP CC CT : Addr} {N H : Hp} {m : Addr} {z : Str} {key : Int} {kvs : List (Key × V)} {σ : L2.St} {i : Nat} {Q : VK} (h : Msg CP CC CT N H m z key kvs) (hσ : σ[i]? = some (some (.ref m))) (q : ∀ d, H d = none → Q (.ref d) (upd H d (.dK kvs))) : tCells CP CC CT (tVar i) σ H Q := by
  obtain ⟨n, h | ⟨hz, dx, d, nd, h1, h2⟩⟩ := h
  · obtain ⟨rfl, rfl, dx, h1⟩ := h
    exact .inr (.inr ⟨_, hσ, m, dx, _, rfl, h1, m, rfl, q⟩)
  · rcases hz with rfl | rfl
    · exact .inl ⟨_, hσ, m, dx, _, rfl, h1, m, dx, d, key, kvs, rfl, h1, h2, q⟩
    · exact .inr (.inl ⟨_, hσ, m, dx, _, rfl, h1, m, dx, d, key, kvs, rfl, h1, h2, q⟩)
theorem Msg.take_nil {CP CC CT : Addr} {N H : Hp} {m : Addr} {z : Str} {key : Int} {kvs : List (Key × V)} (h : Msg CP CC CT N H m z key kvs) (e : z = "take") : kvs = [] := by
  obtain ⟨n, h | ⟨hz, _⟩⟩ := h
  · exact h.2.1
  · subst e
    rcases hz with hz | hz <;> exact absurd hz (by decide)
/-! a message made in the law; cells turned round -/
structure MkS (P : Program) (w : World) (K : PySem.W.Frag) (mg : Str → Option Value) (base : Heap) (x : Str) (C : Addr) (sp : Sp) (ps : List Str) : Prop where
  g : mg x = some (.ref C)
  ex : ∃ f fd, Mk K C f ∧ FnOk P w K mg base CX0 1 f fd ps sp ∧ Binds K fd ps []
def spMsg (CP CC CT : Addr) : Sp := fun vs H Q _ => ∃ (z : Str) (key : Int) (c : Addr) (kvs : List (Key × V)), vs = [.str z, .int key, .ref c] ∧ z ∈ deeds ∧ H c = some (.dK kvs) ∧ (z = "take" → kvs = []) ∧ ∀ m G, Same H G → Msg CP CC CT H G m z key kvs → Q (.ref m) G
theorem scMessage : FnScope ["deed", "key", "cells"] ["deed", "key", "cells"] (defScope sMessage) := ⟨rfl, rfl, rfl, by decide +kernel, rfl, by decide +kernel, by decide +kernel⟩
theorem ok_message {CP CC CT f : Addr} {fd : FuncData} (F : FnP K "_law_message" sMessage f fd) (hd : mg "dict" = none) (mP : MkS P w K mg base "Put" CP (spMI CP) ["self", "key", "cells"]) (mC : MkS P w K mg base "Change" CC (spMI CC) ["self", "key", "cells"]) (mT : MkS P w K mg base "Take" CT (spTI CT) ["self", "key"]) :
    FnOk P w K mg base CX0 3 f fd ["deed", "key", "cells"] (spMsg CP CC CT) := by
  obtain ⟨fP, fdP, MP, FP, bP⟩ := mP.ex
  obtain ⟨fC, fdC, MC, FC, bC⟩ := mC.ex
  obtain ⟨fT, fdT, MT, FT, bT⟩ := mT.ex
  refine F.ok scMessage (fun vs H Q E h => ?_) (fun cdv A outer s H vs Q E hr h => ?_)
  · obtain ⟨z, key, c, kvs, rfl, _⟩ := h
    rfl
  · obtain ⟨z, key, c, kvs, rfl, hz, hc, ht, k⟩ := h
    refine ⟨_, PSs.nox (pss_cons (ps_if (pt_cmpR op_eq (pv 0) pe_str (nomark _)) (pss_one (ps_ret (pe_make MT FT hr (by rfl) mT.g bT .nil pass0 (pa_cons (pv 1) pa_nil)))) pss_nil)
      (pss_one (ps_ret (pe_ifExp (pt_cmpR op_eq (pv 0) pe_str (nomark _)) (pe_make MP FP hr (by rfl) mP.g bP .nil pass0 (pa_cons (pv 1) (pa_cons (pe_callTy call_dictD (by rfl) hd (by decide +kernel) (pa_cons (pv 2) pa_nil)) pa_nil)))
        (pe_make MC FC hr (by rfl) mC.g bC .nil pass0 (pa_cons (pv 1) (pa_cons (pe_callTy call_dictD (by rfl) hd (by decide +kernel) (pa_cons (pv 2) pa_nil)) pa_nil))))))), ?_⟩
    refine ⟨_, rfl, rfl, _, rfl, str_it (fun e => ?_) (fun e => ?_)⟩
    · subst e
      have e2 := ht rfl
      subst e2
      exact ⟨_, rfl, take_new (CP := CP) (CC := CC) (CT := CT) fun m G nm sm hm => k m G sm hm⟩
    · refine ⟨_, rfl, rfl, _, rfl, str_it (fun e2 => ?_) (fun e2 => ?_)⟩
      · subst e2
        refine ⟨_, rfl, _, rfl, c, kvs, rfl, .inl hc, fun q nq => ?_⟩
        have s1 : Same H (upd H q (.dK kvs)) := Lw.Same.new (Same.refl H) nq
        exact msg_new (CP := CP) (CC := CC) (CT := CT) (z := "put") (.inl rfl) upd_same fun m G nm sm hm => k m G (s1.trans sm) (hm.old s1)
      · have e3 : z = "change" := by
          rcases List.mem_cons.mp hz with h | h
          · exact absurd h e2
          rcases List.mem_cons.mp h with h | h
          · exact h
          rcases List.mem_cons.mp h with h | h
          · exact absurd h e
          cases h
        subst e3
        refine ⟨_, rfl, _, rfl, c, kvs, rfl, .inl hc, fun q nq => ?_⟩
        have s1 : Same H (upd H q (.dK kvs)) := Lw.Same.new (Same.refl H) nq
        exact msg_new (CP := CP) (CC := CC) (CT := CT) (z := "change") (.inr rfl) upd_same fun m G nm sm hm => k m G (s1.trans sm) (hm.old s1)
end
end Lw

set_option Elab.async false
set_option linter.all false
set_option maxRecDepth 100000
set_option maxHeartbeats 4000000
namespace PySem
namespace Ge
open Builtin Builtin.ObjectAttr
/-! own errors under any base: own classes, then the base's row -/
def tailB (tl : List Value) : List Value → Bool
  | .ref _ :: r => tailB tl r
  | l => l == tl
theorem tail_cut {tl : List Value} : ∀ l : List Value, tailB tl l = true → ∃ cs : List Addr, l = cs.map Value.ref ++ tl
  | [], h => ⟨[], beq_iff_eq.mp h⟩
  | v :: r, h => by
    match v, h with
    | .ref c, h =>
      obtain ⟨cs, e⟩ := tail_cut (tl := tl) r h
      exact ⟨c :: cs, by rw [e]; rfl⟩
    | .none, h | .ellipsis, h | .notImplemented, h | .bool _, h | .int _ _, h | .float _ _, h | .str _ _, h | .bytes _ _, h | .type _, h | .builtin _, h => exact ⟨[], beq_iff_eq.mp h⟩
/-- what a base's row must do -/
structure Tl (tl : List Value) : Prop where
  pass : ∀ self : Value, refuseLoop self "__setattr__" tl = pure ()
  obj : tl.contains (.type "object") = true
theorem row_contains {tl l : List Value} (h : tailB tl l = true) (T : String) : l.contains (.type T) = tl.contains (.type T) := by
  obtain ⟨cs, rfl⟩ := tail_cut l h
  induction cs with
  | nil => rfl
  | cons c cs ih =>
    rw [List.map_cons, List.cons_append, List.contains_cons, ih (by
      have h' : tailB tl (Value.ref c :: (cs.map Value.ref ++ tl)) = true := h
      exact h')]
    rfl
theorem row_pass {tl l : List Value} (t : Tl tl) (self : Value) (h : tailB tl l = true) : refuseLoop self "__setattr__" l = pure () := by
  obtain ⟨cs, rfl⟩ := tail_cut l h
  clear h
  induction cs with
  | nil => exact t.pass self
  | cons c cs ih =>
    show refuseLoop self "__setattr__" (Value.ref c :: (cs.map Value.ref ++ tl)) = _
    rw [refuseLoop_ref]
    exact ih
theorem row_some {tl l : List Value} (t : Tl tl) (h : tailB tl l = true) : l.isEmpty = false := by
  cases l with
  | nil =>
    have e : ([] : List Value) = tl := beq_iff_eq.mp h
    have o := t.obj
    rw [← e] at o
    cases o
  | cons _ _ => rfl
section
variable {prog : Program} {w : World} {A : Around} {R : Result → Shared → Prop} {hp : Heap} {g : Array GenState} {d : Drawn} {t : Nat} {os : OsState}
/-- object.__setattr__ on an error that has no dict yet -/
theorem first_field {tl : List Value} (T : Tl tl) {K : W.Frag} {name : Str} {tk : Tok} {v : Value} {x C : Addr} {fv : Array Value} {cd : ClassData} (KI : K.In hp) (here : hp.get? x = some { cls := .ref C, data := .fields fv }) (cls : W.clsIn K C = some cd)
    (row : tailB tl cd.mro = true) (dict : cd.hasDict = true) (no : W.findIn K (.ref C) name = some none)
    (out : ∀ h' tk' dx, (∀ b o, b ≠ x → hp.get? b = some o → h'.get? b = some o) → hp.objs.size ≤ dx → dx ≠ x → h'.get? x = some { cls := .ref C, dict := some dx, data := .fields fv } → h'.Ns1 dx (fun y => if y = name then some v else none) →
      R (.ok (.ret .none)) ⟨h', g, d, tk', os⟩) : codeAny (model prog w) A (.call (.builtin "object.__setattr__") ⟨[.ref x, .str name tk, v], []⟩) R ⟨hp, g, d, t, os⟩ := by
  have at_ : W.InstAt hp x { cls := .ref C, data := .fields fv } C none := ⟨here, rfl, rfl, trivial⟩
  have facts := F.store_object
  have some_ := row_some T row
  have below : cd.mro.contains (.type "object") = true := by rw [row_contains row "object"]; exact T.obj
  have apart : x ≠ hp.objs.size := Nat.ne_of_lt (Heap.lt_size here)
  have mem : W.mroIn K C (.type "object") = some true := by
    unfold W.mroIn
    rw [cls, Option.bind_some, if_neg (by rw [some_]; decide), below]
  have isObj : W.Looks (model prog w) hp (isInstance (.ref x) (.type "object")) true := at_.type.andThen (W.looks_mroIn KI mem)
  refine codeAny_call_builtin facts.slot.plain facts.entry ?_
  refine @W.check_slot (model prog w) _ _ ⟨hp, g, d, t, os⟩ "object.__setattr__" "object" "__setattr__" (.ref x) [.str name tk, v] [] _ facts.kind facts.split isObj (facts.args (.ref x) (.str name tk) v) ?_
  have rowL : W.Looks (model prog w) hp (mroOf (.ref C)) cd.mro := (W.looks_clsIn KI cls).andThen .now
  have taker : W.Looks (model prog w) hp (storeTaker? none) none := .now
  have dataL : W.Looks (model prog w) hp (classData C) cd := W.looks_clsIn KI cls
  rw [W.osa_eq, refuse_eq]
  refine wpAny_bind (wpAny_bind (at_.type.at (wpAny_bind (rowL.at ?_))))
  rw [row_pass T _ row]
  refine wpAny_pure (wpAny_bind (at_.type.at (wpAny_bind ((W.looks_findIn KI no).at (wpAny_bind (taker.at ?_))))))
  show wpAny _ _ (storeInOwnDict (.ref x) (.ref C) (.str name tk) name v false) _ _ _
  obtain ⟨c1, c2, c3, c4, c5, c6, c7, c8, c9, c10, c11⟩ := cd
  cases (show c6 = true from dict)
  unfold storeInOwnDict
  unfold ownDictForStores
  repeat (first | with_reducible refine HandSPX.store_in_new ?_ ?_ | with_reducible refine wpAny_loadPart_at here ?_ | with_reducible refine dataL.at ?_ | wp_step)
  · exact ⟨_, #[], _, (Heap.get?_update_ne _ _ _ _ apart.symm).trans (Heap.get?_push_at rfl rfl), rfl, fun e he => absurd he (by simp), fun _ => rfl⟩
  · intro h' tk' ns same
    have here2 : (hp.push { cls := .type "dict", data := .dict #[] }).get? x = some { cls := .ref C, data := .fields fv } := Heap.get?_push_of_some _ here
    apply out h' tk' hp.objs.size _ (Nat.le_refl _) apart.symm _ ns
    · intro b o n q
      have n2 : b ≠ hp.objs.size := Nat.ne_of_lt (Heap.lt_size q)
      rw [same.2 b n2, Heap.get?_update_ne _ _ _ _ n]
      exact Heap.get?_push_of_some _ q
    · rw [same.2 x apart]
      exact Heap.get?_update_self _ here2 rfl
end
end Ge
end PySem
namespace Ge
open PySem PySem.Spec PyProof.Rows L2
/-- an own error class with an own __init__, over any base -/
structure OexT (K : PySem.W.Frag) (C : Addr) (tl : List Value) (newId : String) : Prop where
  base : PySem.Ge.Tl tl
  cls : ∃ nm q N bs bm sn sub ab col dd k0 k1 k2 k3 k5, K.lookup C = some (excClassObj nm q C N bs bm true sn sub ab col dd k0 k1 k2 k3 k5 newId) ∧ PySem.Ge.tailB tl bm = true
  sa : PySem.W.findIn K (.ref C) "__setattr__" = some (some (.builtin "object.__setattr__"))
  exC : PySem.W.subIn K (.ref C) (.type "BaseException") = some true
  tyC : PySem.W.typeIn K (.ref C) = some (.type "type")
  kC : PySem.W.keepIn K (.ref C) = true
section
variable {X : Cx} {pins : List (Addr × Obj)} {σ : L2.St} {H : Hp} {s : Shared} {a C : Addr} {tl : List Value} {newId : String} {f : Str} {y : V} {u : Value} {Q : Unit → Shared → Prop} {E : Value → Shared → Prop} {A : Around}
theorem other_obj {H : Hp} {a b : Addr} {o u : HO} (ha : H a = some o) (hb : H b = some u) (d : o ≠ u) : b ≠ a := by
  rintro rfl
  rw [ha] at hb
  cases hb
  exact d rfl
/-- its first field is set -/
theorem set_first (T : OexT X.K C tl newId) (I : Inv X pins σ H s) (e : H a = some (exo a C none)) (no : PySem.W.findIn X.K (.ref C) f = some none) (ry : RelV y u)
    (out : ∀ dx s', H dx = none → dx ≠ a → Inv X pins σ (upd (upd H dx (exd dx [(f, y)])) a (exo a C (some dx))) s' → Q () s') : wpAny (model X.prog X.w) A (setAttr (.ref a) f u) Q E s := by
  obtain ⟨nm, q, N, bs, bm, sn, sub, ab, col, dd, k0, k1, k2, k3, k5, at_, row⟩ := T.cls
  have data : PySem.W.clsIn X.K C = some { name := nm, bases := bs, mro := .ref C :: bm, ns := N, qualname := q, hasDict := true, slotNames := sn, subclasses := sub, abstract := ab, collection := col, hasDel := false } := by
    unfold PySem.W.clsIn
    rw [at_]
  obtain ⟨t1, ho⟩ := exo_at I.hok e
  obtain ⟨hp, g, d, t, os⟩ := s
  refine PySem.W.set_plain I.kIn (ox := { cls := .ref C, dict := none, data := .fields #[.ref t1, .none, .none, .none, .bool false, .none] }) (od := none) ⟨ho, rfl, rfl, trivial⟩ T.sa ?_
  apply PySem.Ge.first_field T.base I.kIn ho data (show PySem.Ge.tailB tl (.ref C :: bm) = true from row) rfl no
  intro h' tk' dx kept fresh ne here ns
  have free : H dx = none := I.hok.fresh fresh
  have below : ∀ {b : Addr} {o : Obj}, hp.get? b = some o → b ≠ dx := fun q => Nat.ne_of_lt (Nat.lt_of_lt_of_le (Heap.lt_size q) fresh)
  have off : ∀ {b : Addr}, H b = none → b ≠ a := by
    rintro b n rfl
    exact absurd (e.symm.trans n) (by simp)
  have at2 : ∀ {b : Addr} {o : HO}, H b = some o → exo a C none ≠ o → (upd (upd H dx (exd dx [(f, y)])) a (exo a C (some dx))) b = some o := fun {b o} q n => by
    rw [upd_ne (other_obj e q n), upd_ne (ne_of_none q free)]
    exact q
  refine out dx _ free ne (I.un (t' := tk') ?_ ?_)
  · exact
      { keep := fun b o q n _ _ => kept b o (off n) q
        slot := fun b o q n _ _ => ⟨o.slots, kept b o (off n) q⟩
        free := fun b o q n _ => by
          rw [upd_ne (off n), upd_ne (below q)]
          exact n
        there := fun b o q _ => by
          rcases Decidable.em (b = a) with rfl | hb
          · exact ⟨_, here⟩
          · exact ⟨o, kept b o hb q⟩
        tups := fun b xs q => at2 q exo_tup
        frzs := fun b o v q => at2 q exo_frz
        tbls := fun b ps q => ⟨#[], by rw [at2 q exo_tbl]; simp⟩ }
  · intro b o q
    rcases Decidable.em (b = a) with rfl | hb
    · rw [upd_same] at q
      cases q
      exact exo_ok here
    rw [upd_ne hb] at q
    rcases Decidable.em (b = dx) with rfl | hd
    · rw [upd_same] at q
      cases q
      exact exd_ok ns (relO_put (fs := []) ry fun _ => trivial)
    rw [upd_ne hd] at q
    refine (I.hok b o q).stay (fun c v hc z => kept c v ?_ z) (fun c hc => at2 hc exo_own) (fun c xs hc => at2 hc exo_tup)
    rcases hc with rfl | hc
    · exact hb
    · exact other_obj e hc exo_own
end
/-- self.f = e, the first field of such an error -/
def tOstT (K : PySem.W.Frag) (f : Str) (to te : TE) : TS := fun D σ H => te σ H fun y H1 => to σ H1 fun x H2 => ∃ (a C : Addr) (tl : List Value) (newId : String), x = .ref a ∧ OexT K C tl newId ∧ PySem.W.findIn K (.ref C) f = some none ∧ H2 a = some (exo a C none) ∧
  ∀ dx, H2 dx = none → dx ≠ a → D.nx σ (upd (upd H2 dx (exd dx [(f, y)])) a (exo a C (some dx)))
section
variable {X : Cx} {o e : Expr} {f : Str} {p' pos : Pos} {to te : TE}
theorem ps_ostT (ho : PE X o to) (he : PE X e te) (hs : swapsWith e (some (.Attribute o f p')) pos.line X.env = pure false := by rfl) : PS X (.Assign [.Attribute o f p'] e pos) (tOstT X.K f to te) := by
  constructor
  intro pins s σ H D I h
  refine plainObj_wpAny_Assign_Attribute (thn (he.run pins s σ H _ I h) ?_) hs
  rintro v s1 ⟨y, H1, I1, r1, q1⟩
  refine thn (ho.run pins s1 σ H1 _ I1 q1) ?_
  rintro u s2 ⟨x, H2, I2, r2, a, C, tl, newId, rfl, T, no, ea, q⟩
  obtain rfl : u = Value.ref a := r2
  exact set_first T I2 ea no r1 fun dx s' n ne J => ⟨σ, _, J, q dx n ne⟩
end
section
variable {X : Cx} {CX : CXT} {x : Str} {e : Expr} {es : List Expr} {ta : TA} {p pos : Pos} {C fI : Addr} {k : Nat} {fd : FuncData} {ps : List Str} {sp : Sp} {ds : List Value} {dvs : List V} {tl : List Value} {B newId initId : String}
/-- such an error, made: its context is None -/
theorem pmk_T (F : ExcBaseFacts B newId initId tl) (T : OexT X.K C tl newId) (iC : PySem.W.findIn X.K (.ref C) "__init__" = some (some (.ref fI))) (tI : PySem.W.typeIn X.K (.ref fI) = some (.type "function")) (F1 : FnOk X.prog X.w X.K X.mg X.base CX k fI fd ps sp) (hr : Room (k + 1) X.A) (hb : Binds X.K fd ps ds)
    (hd : Vals dvs ds) (hx : Passes CX X (fun _ _ _ => False)) (hm : X.mg x = some (.ref C)) (ha : PA X (e :: es) ta) (hg : Gl X x := by rfl) (hdb : (x == ("__debug__" : Str)) = false := by decide) (he : starEach (e :: es) X.env = (false, eval e X.env) :: starEach es X.env := by rfl)
    (hpl : (backTo pos (starEach es X.env)).any (·.1) = false := by rfl) : L2N.PMk X (.Call (.Name x p) (e :: es) [] pos) (tMkO C sp dvs ta) := fun pins s σ H Q I h => by
  obtain ⟨nm, qn, N, bs, bm, sn, sub, ab, col, dd, k0, k1, k2, k3, k5, hC, row⟩ := T.cls
  refine wpAny_Call_Name_kw (ld_glob I hg hm (PySem.W.callWith_K (h₀ := X.base) I.ok.mod.kin T.kC (thn (ha.run pos pins s σ H _ I h) fun us st ⟨vs, H1, J, rv, hz, q1⟩ => ⟨J.kIn, ?_⟩) he hpl) hdb)
  show wpAny _ _ (call (.ref C) us) _ _ _
  obtain ⟨hp, g, dr, tk, os⟩ := st
  have up : hp.objs.size ≤ hp.objs.size + 1 := by omega
  have spec := q1 (hp.objs.size + 1) (J.hok.fresh up)
  have stay : ∀ b o, hp.get? b = some o → ((hp.push (PySem.W.kdv_tup us)).push (PySem.HandSPX.excO C hp.objs.size)).get? b = some o := fun b o z => Heap.get?_push_of_some _ (Heap.get?_push_of_some _ z)
  have there : ((hp.push (PySem.W.kdv_tup us)).push (PySem.HandSPX.excO C hp.objs.size)).get? (hp.objs.size + 1) = some (PySem.HandSPX.excO C hp.objs.size) := by heap_get
  have J2 := J.laid (t' := tk) (a := hp.objs.size + 1) (o := exo (hp.objs.size + 1) C none) (h' := (hp.push (PySem.W.kdv_tup us)).push (PySem.HandSPX.excO C hp.objs.size)) stay up (exo_ok there)
  have rel : Vals (V.ref (hp.objs.size + 1) :: (vs ++ dvs)) (Value.ref (hp.objs.size + 1) :: (us ++ ds)) := .cons rfl (rv.append hd)
  have len : (Value.ref (hp.objs.size + 1) :: us ++ ds).length = ps.length := (F1.len _ _ _ _ spec ▸ rel.length).symm
  have line : us.length ≤ sizeLine := by rw [← Paired.length rv, sizeLine_eq]; omega
  refine wpAny_call (PySem.HandSPX.call_own F (PySem.Ge.row_contains row) (J.kIn _ _ hC) (PySem.W.looks_findIn J.kIn iC) (fun self => PySem.W.bind_fn J.kIn self tI) line
    (codeAny_mono (F1.run _ X.stack _ _ ⟨Value.ref (hp.objs.size + 1) :: us, []⟩ (Value.ref (hp.objs.size + 1) :: (us ++ ds)) _ _ (fun _ _ _ => False) (hr.make C us []) (J2.env0.make C us []) (hb _ (Value.ref (hp.objs.size + 1) :: us) J2.kIn len) rel spec) fun r s' back => ?_))
  match r, back with
  | .error er, back => exact hx pins σ _ _ er s' J2 back
  | .ok .next, back => exact back.elim
  | .ok .brk, back => exact back.elim
  | .ok .cont, back => exact back.elim
  | .ok (.ret u), back =>
    obtain ⟨v, H2, os2, bare2, un2, hok2, rv2, ev, d, fs, ea, ed, hd1, q2⟩ := back
    subst ev
    obtain ⟨h2, g2, d2, t2, os'⟩ := s'
    obtain ⟨t0, G, JG, kG, ge, hoe, na⟩ := mk_end0 (d2 := d2) (t2 := t2) J up stay un2 hok2 os2 bare2 ea ed hd1
    exact ⟨rv2, _, _, _, ⟨G, g2, d2, t2, os'⟩, _, .ref C, some d, rfl, JG, kG, ge, hoe, ⟨rfl, rfl, fun z ez => by cases ez; rfl⟩, rfl, rfl, na, rfl, bare2, raises_own T.exC T.tyC, q2⟩
end
abbrev leTail : List Value := [.type "LookupError", .type "Exception", .type "BaseException", .type "object"]
abbrev rtTail : List Value := [.type "RuntimeError", .type "Exception", .type "BaseException", .type "object"]
abbrev vlTail : List Value := [.type "ValueError", .type "Exception", .type "BaseException", .type "object"]
theorem tl_le : PySem.Ge.Tl leTail := ⟨PySem.F.store_LookupError.passes, by decide +kernel⟩
theorem tl_rt : PySem.Ge.Tl rtTail := ⟨PySem.F.store_RuntimeError.passes, by decide +kernel⟩
theorem tl_vl : PySem.Ge.Tl vlTail := ⟨PySem.F.store_ValueError.passes, by decide +kernel⟩
end Ge

set_option Elab.async false
set_option linter.all false
set_option maxRecDepth 100000
set_option maxHeartbeats 4000000
namespace PySem
namespace Gf
open Builtin Builtin.ObjectAttr
section
variable {prog : Program} {w : World} {A : Around} {R : Result → Shared → Prop} {hp : Heap} {g : Array GenState} {d : Drawn} {t : Nat} {os : OsState}
/-- object.__setattr__ on an own error that has its dict, over any base -/
theorem next_field {tl : List Value} (T : Ge.Tl tl) {K : W.Frag} {name : Str} {tk : Tok} {v : Value} {x C dx : Addr} {fv : Array Value} {cd : ClassData} {m0 : Str → Option Value} {nl : List Str} (KI : K.In hp) (here : hp.get? x = some { cls := .ref C, dict := some dx, data := .fields fv })
    (hns : hp.Ns1 dx m0) (hw : Within m0 nl) (hz : nl.length ≤ 1000) (cls : W.clsIn K C = some cd) (row : Ge.tailB tl cd.mro = true) (dict : cd.hasDict = true) (no : W.findIn K (.ref C) name = some none)
    (out : ∀ h' tk', (∀ b o, b ≠ dx → hp.get? b = some o → h'.get? b = some o) → h'.Ns1 dx (fun y => if y = name then some v else m0 y) → R (.ok (.ret .none)) ⟨h', g, d, tk', os⟩) :
    codeAny (model prog w) A (.call (.builtin "object.__setattr__") ⟨[.ref x, .str name tk, v], []⟩) R ⟨hp, g, d, t, os⟩ := by
  obtain ⟨oD, esD, epD, hoD, hdD, _⟩ := hns.count hw
  have at_ : W.InstAt hp x { cls := .ref C, dict := some dx, data := .fields fv } C (some oD) := ⟨here, rfl, rfl, hoD⟩
  have facts := F.store_object
  have some_ := Ge.row_some T row
  have below : cd.mro.contains (.type "object") = true := by rw [Ge.row_contains row "object"]; exact T.obj
  have mem : W.mroIn K C (.type "object") = some true := by
    unfold W.mroIn
    rw [cls, Option.bind_some, if_neg (by rw [some_]; decide), below]
  have isObj : W.Looks (model prog w) hp (isInstance (.ref x) (.type "object")) true := at_.type.andThen (W.looks_mroIn KI mem)
  refine codeAny_call_builtin facts.slot.plain facts.entry ?_
  refine @W.check_slot (model prog w) _ _ ⟨hp, g, d, t, os⟩ "object.__setattr__" "object" "__setattr__" (.ref x) [.str name tk, v] [] _ facts.kind facts.split isObj (facts.args (.ref x) (.str name tk) v) ?_
  have rowL : W.Looks (model prog w) hp (mroOf (.ref C)) cd.mro := (W.looks_clsIn KI cls).andThen .now
  have taker : W.Looks (model prog w) hp (storeTaker? none) none := .now
  have dataL : W.Looks (model prog w) hp (classData C) cd := W.looks_clsIn KI cls
  rw [W.osa_eq, refuse_eq]
  refine wpAny_bind (wpAny_bind (at_.type.at (wpAny_bind (rowL.at ?_))))
  rw [Ge.row_pass T _ row]
  refine wpAny_pure (wpAny_bind (at_.type.at (wpAny_bind ((W.looks_findIn KI no).at (wpAny_bind (taker.at ?_))))))
  show wpAny _ _ (storeInOwnDict (.ref x) (.ref C) (.str name tk) name v false) _ _ _
  obtain ⟨c1, c2, c3, c4, c5, c6, c7, c8, c9, c10, c11⟩ := cd
  cases (show c6 = true from dict)
  unfold storeInOwnDict ownDictForStores
  repeat (first | with_reducible refine PySem.OEX.store_in_old hns hw hz ?_ | with_reducible refine wpAny_loadPart_at here ?_ | with_reducible refine dataL.at ?_ | wp_step)
  intro h' tk' hn' hs
  exact out h' tk' (fun b o hb ho => (hs.2 b hb).trans ho) hn'
end
end Gf
end PySem
namespace Gf
open PySem PySem.Spec PyProof.Rows L2 Ge
section
variable {X : Cx} {pins : List (Addr × Obj)} {σ : L2.St} {H : Hp} {s : Shared} {a C dx : Addr} {fs : List (Str × V)} {tl : List Value} {newId : String} {f : Str} {y : V} {u : Value} {Q : Unit → Shared → Prop} {E : Value → Shared → Prop} {A : Around}
theorem set_next (T : OexT X.K C tl newId) (I : Inv X pins σ H s) (e : H a = some (exo a C (some dx))) (ed : H dx = some (exd dx fs)) (hl : fs.length ≤ 900) (no : PySem.W.findIn X.K (.ref C) f = some none) (ry : RelV y u)
    (h : ∀ s', Inv X pins σ (upd H dx (exd dx ((f, y) :: fs))) s' → Q () s') : wpAny (model X.prog X.w) A (setAttr (.ref a) f u) Q E s := by
  obtain ⟨nm, q, N, bs, bm, sn, sub, ab, col, dd, k0, k1, k2, k3, k5, hC, row⟩ := T.cls
  have hcl : PySem.W.clsIn X.K C = some { name := nm, bases := bs, mro := .ref C :: bm, ns := N, qualname := q, hasDict := true, slotNames := sn, subclasses := sub, abstract := ab, collection := col, hasDel := false } := by
    unfold PySem.W.clsIn
    rw [hC]
  obtain ⟨t1, ho⟩ := exo_at I.hok e
  obtain ⟨mA, hns, rel⟩ := exd_at I.hok ed
  have hw := within_of rel
  obtain ⟨hp, g, d, t, os⟩ := s
  obtain ⟨oD, _, _, hoD, _, _⟩ := hns.count hw
  refine PySem.W.set_plain I.kIn (ox := { cls := .ref C, dict := some dx, data := .fields #[.ref t1, .none, .none, .none, .bool false, .none] }) (od := some oD) ⟨ho, rfl, rfl, hoD⟩ T.sa ?_
  refine PySem.Gf.next_field T.base I.kIn ho hns hw (by rw [List.length_map]; omega) hcl (show PySem.Ge.tailB tl (.ref C :: bm) = true from row) rfl no (fun h' tk' k hn => ?_)
  have hd : ∃ o, h'.get? dx = some o := by
    obtain ⟨o, _, _, e', _⟩ := hn
    exact ⟨o, e'⟩
  exact h _ (I.write (t' := tk') (x := dx) (e := dx) (o := exd dx ((f, y) :: fs)) (by rw [ed]; exact True.intro) (.inl rfl) k hd (exd_ok hn (relO_put ry rel)))
end
/-- self.f = e, a later field of such an error -/
def tOstN (K : PySem.W.Frag) (f : Str) (to te : TE) : TS := fun D σ H => te σ H fun y H1 => to σ H1 fun x H2 => ∃ (a C dx : Addr) (fs : List (Str × V)) (tl : List Value) (newId : String), x = .ref a ∧ OexT K C tl newId ∧ PySem.W.findIn K (.ref C) f = some none ∧ H2 a = some (exo a C (some dx)) ∧ H2 dx = some (exd dx fs) ∧ fs.length ≤ 900 ∧
  D.nx σ (upd H2 dx (exd dx ((f, y) :: fs)))
section
variable {X : Cx} {o e : Expr} {f : Str} {p' pos : Pos} {to te : TE}
theorem ps_ostN (ho : PE X o to) (he : PE X e te) (hs : swapsWith e (some (.Attribute o f p')) pos.line X.env = pure false := by rfl) : PS X (.Assign [.Attribute o f p'] e pos) (tOstN X.K f to te) := by
  constructor
  intro pins s σ H D I h
  refine plainObj_wpAny_Assign_Attribute (thn (he.run pins s σ H _ I h) ?_) hs
  rintro v s1 ⟨y, H1, I1, r1, q1⟩
  refine thn (ho.run pins s1 σ H1 _ I1 q1) ?_
  rintro u s2 ⟨x, H2, I2, r2, a, C, dx, fs, tl, newId, rfl, T, no, ea, ed, hl, q⟩
  obtain rfl : u = Value.ref a := r2
  exact set_next T I2 ea ed hl no r1 fun s' J => ⟨σ, _, J, q⟩
end
end Gf

set_option Elab.async false
set_option linter.all false
set_option maxRecDepth 100000
set_option maxHeartbeats 2000000
namespace St
open PySem PySem.Spec PyProof.Rows L2
/-! a comprehension, turn by turn, over whatever is walked -/
theorem turns_of {J : It} {n : Nat} {G : Hp → Prop} {Y : Nat → Hp → V → Hp → Prop} (wk : Walk J n G Y) {turn : (Hp → Prop) → V → Hp → Prop} {fin : Hp → Prop} {G0 : Hp} (Pv : Nat → Hp → Prop) (h0 : Pv 0 G0) (hG : ∀ i A, i ≤ n → Pv i A → G A)
    (hs : ∀ i x A B, i < n → Pv i A → Y i A x B → turn (Pv (i + 1)) x B) (hd : ∀ A, Pv n A → fin A) : Turns J turn fin G0 := by
  refine ⟨fun i m A => (m = n - i ∧ i ≤ n) ∧ Pv i A, ⟨n, ⟨rfl, Nat.zero_le n⟩, h0⟩, ?_⟩
  rintro i m A ⟨⟨rfl, hi⟩, p⟩
  have g := hG i A hi p
  rcases Nat.lt_or_ge i n with lt | ge
  · refine .inr ⟨wk.goes i A lt g, Pv (i + 1), fun B q => ⟨n - (i + 1), by omega, ⟨rfl, lt⟩, q⟩, fun x B y => ?_⟩
    exact hs i x A B lt p (wk.yields i A x B lt g y)
  · obtain rfl : i = n := Nat.le_antisymm hi ge
    exact .inl ⟨wk.stops A g, hd A p⟩
section
variable {X : Cx}
theorem dc_by {J : It} {n : Nat} {G : Hp → Prop} {Y : Nat → Hp → V → Hp → Prop} {g : TG} {tt : TT} {tk tv : TE} {vs : List Nat} {σ : L2.St} {G0 : Hp} {D : Addr} {fin : Hp → Prop} (wk : Walk J n G Y) (Pv : Nat → Hp → Prop) (h0 : Pv 0 G0) (hG : ∀ i A, i ≤ n → Pv i A → G A)
    (hs : ∀ i x A B, i < n → Pv i A → Y i A x B → g x (wipe σ vs) B fun σ2 H2 => wipe σ2 vs = wipe σ vs ∧ tt σ2 H2 fun b H3 =>
      if b = true then tk σ2 H3 fun y H4 => tv σ2 H4 fun z H5 => ∃ kvs k, y = kV k ∧ H5 D = some (.dK kvs) ∧ kvs.length < sizeLine ∧ Pv (i + 1) (upd H5 D (.dK (putK kvs k z))) else Pv (i + 1) H3) (hd : ∀ A, Pv n A → fin A) :
    ∃ W : Nat → Nat → Hp → Prop, (∃ m, W 0 m G0) ∧ ∀ i m H, W i m H → (J.stop i H ∧ fin H) ∨ (J.go i H ∧ ∃ Nx : Hp → Prop, (∀ H', Nx H' → ∃ m', m' < m ∧ W (i + 1) m' H') ∧ ∀ x H', J.yld i H x H' → g x (wipe σ vs) H' fun σ2 H2 => wipe σ2 vs = wipe σ vs ∧ tt σ2 H2 fun b H3 =>
      if b = true then tk σ2 H3 fun y H4 => tv σ2 H4 fun z H5 => ∃ kvs k, y = kV k ∧ H5 D = some (.dK kvs) ∧ kvs.length < sizeLine ∧ Nx (upd H5 D (.dK (putK kvs k z))) else Nx H3) :=
  turns_of wk (turn := fun Nx x H' => g x (wipe σ vs) H' fun σ2 H2 => wipe σ2 vs = wipe σ vs ∧ tt σ2 H2 fun b H3 =>
      if b = true then tk σ2 H3 fun y H4 => tv σ2 H4 fun z H5 => ∃ kvs k, y = kV k ∧ H5 D = some (.dK kvs) ∧ kvs.length < sizeLine ∧ Nx (upd H5 D (.dK (putK kvs k z))) else Nx H3) Pv h0 hG hs hd
end
end St

set_option Elab.async false
set_option linter.all false
set_option maxRecDepth 100000
set_option maxHeartbeats 40000000
namespace Lw
open PySem PySem.Spec PyProof.Rows L2
abbrev sCopied : Stmt := top 2
section
variable {P : Program} {w : World} {K : PySem.W.Frag} {mg : Str → Option Value} {base : Heap}
/-! copied, of what an error keeps -/
def NotT (K : PySem.W.Frag) (H : Hp) (v : V) (c : String) : Prop := ∃ t, TyX K H v t ∧ PySem.W.kitOne K t (.type c) = some false
def Plain3 (K : PySem.W.Frag) (H : Hp) (v : V) : Prop := NotT K H v "list" ∧ NotT K H v "tuple" ∧ NotT K H v "dict"
theorem plain_int {H : Hp} {v : V} (h : IntN v) : Plain3 K H v := by
  rcases h with ⟨i, rfl⟩ | rfl
  · exact ⟨⟨_, ty_int i, kit_ty (by decide +kernel)⟩, ⟨_, ty_int i, kit_ty (by decide +kernel)⟩, ⟨_, ty_int i, kit_ty (by decide +kernel)⟩⟩
  · exact ⟨⟨_, ty_non, kit_ty (by decide +kernel)⟩, ⟨_, ty_non, kit_ty (by decide +kernel)⟩, ⟨_, ty_non, kit_ty (by decide +kernel)⟩⟩
structure TxtCo (mg : Str → Option Value) : Prop where
  isi : mg "isinstance" = none
  list : mg "list" = none
  tuple : mg "tuple" = none
  dict : mg "dict" = none
def spCopF (K : PySem.W.Frag) : Sp := fun vs H Q _ => ∃ v : V, vs = [v] ∧ Plain3 K H v ∧ Q v H
abbrev nCopied : List Str := ["value", "part", "name"]
theorem scCopied : FnScope nCopied ["value"] (defScope sCopied) := ⟨rfl, rfl, rfl, by decide +kernel, rfl, by decide +kernel, by decide +kernel⟩
theorem ok_copF {f : Addr} {fd : FuncData} (F : FnP K "copied" sCopied f fd) (T : TxtCo mg) : FnOk P w K mg base CX0 1 f fd ["value"] (spCopF K) := by
  refine F.ok scCopied (fun vs H Q E h => ?_) (fun cdv A outer s H vs Q E hr h => ?_)
  · obtain ⟨v, rfl, _⟩ := h
    rfl
  · obtain ⟨v, rfl, ⟨⟨t1, h1, k1⟩, ⟨t2, h2, k2⟩, ⟨t3, h3, k3⟩⟩, k⟩ := h
    refine ⟨_, PSs.nox (pss_cons (ps_if (pt_val (pe_callB call_isi (by rfl) T.isi (by decide +kernel) (pa_cons (pv 0) (pa_cons (pe_bltn (v := .ty "list") (by rfl) T.list (by decide +kernel) rfl) pa_nil)))) (pss_one ps_never) pss_nil)
      (pss_cons (ps_if (pt_val (pe_callB call_isi (by rfl) T.isi (by decide +kernel) (pa_cons (pv 0) (pa_cons (pe_bltn (v := .ty "tuple") (by rfl) T.tuple (by decide +kernel) rfl) pa_nil)))) (pss_one ps_never) pss_nil)
      (pss_cons (ps_if (pt_val (pe_callB call_isi (by rfl) T.isi (by decide +kernel) (pa_cons (pv 0) (pa_cons (pe_bltn (v := .ty "dict") (by rfl) T.dict (by decide +kernel) rfl) pa_nil)))) (pss_one ps_never) pss_nil)
      (pss_one (ps_ret (pv 0)))))), ?_⟩
    exact ⟨_, rfl, _, _, _, _, false, rfl, .ty _, h1, k1, false, rfl, itFb rfl ⟨_, rfl, _, _, _, _, false, rfl, .ty _, h2, k2, false, rfl, itFb rfl ⟨_, rfl, _, _, _, _, false, rfl, .ty _, h3, k3, false, rfl, itFb rfl ⟨_, rfl, k⟩⟩⟩⟩
/-- .. or a row told as a dict -/
def spCopV (K : PySem.W.Frag) : Sp := fun vs H Q _ => ∃ v : V, vs = [v] ∧ ((Plain3 K H v ∧ Q v H) ∨ ∃ (d : Addr) (kvs : List (Key × V)), v = .ref d ∧ H d = some (.dK kvs) ∧ (kvs.map (·.1)).Nodup ∧ (∀ q ∈ kvs, IntN q.2) ∧ kvs.length ≤ 100 ∧ ∀ q G, Same H G → H q = none → G q = some (.dK kvs) → Q (.ref q) G)
theorem take_snocK {kvs : List (Key × V)} {i : Nat} {k : Key} {v : V} (h : kvs[i]? = some (k, v)) (nd : (kvs.map (·.1)).Nodup) : putK (kvs.take i) k v = kvs.take (i + 1) := by
  rw [take_one h]
  refine L2.putK_new v ?_
  cases e : valV (kvs.take i) k with
  | none => rfl
  | some y =>
    have hk : k ∈ (kvs.take i).map (·.1) := by
      have : (valV (kvs.take i) k).isSome = true := by rw [e]; rfl
      rw [← valV_any] at this
      obtain ⟨p, h1, h2⟩ := List.any_eq_true.mp this
      exact List.mem_map.mpr ⟨p, h1, of_decide_eq_true h2⟩
    have hi := (List.getElem?_eq_some_iff.mp h).1
    have hg := (List.getElem?_eq_some_iff.mp h).2
    have e2 : kvs.map (·.1) = (kvs.take i).map (·.1) ++ (k :: (kvs.drop (i + 1)).map (·.1)) := by
      conv => lhs; rw [← List.take_append_drop i kvs, List.map_append, List.drop_eq_getElem_cons hi, hg]
      rfl
    rw [e2] at nd
    obtain ⟨_, _, n3⟩ := List.nodup_append.mp nd
    exact absurd rfl (n3 k hk k List.mem_cons_self)
theorem ok_copV {f : Addr} {fd : FuncData} (F : FnP K "copied" sCopied f fd) (T : TxtCo mg) (cC : Cal P w K mg base CX0 "copied" 1 ["value"] (spCopF K)) : FnOk P w K mg base CX0 2 f fd ["value"] (spCopV K) := by
  refine F.ok scCopied (fun vs H Q E h => ?_) (fun cdv A outer s H vs Q E hr h => ?_)
  · obtain ⟨v, rfl, _⟩ := h
    rfl
  · obtain ⟨v, rfl, h⟩ := h
    have nd := scCopied.nd
    have h1 : Room 1 _ := hr.mono (by decide)
    have hu := hu_of hr
    refine ⟨_, PSs.nox (pss_cons (ps_if (pt_val (pe_callB call_isi (by rfl) T.isi (by decide +kernel) (pa_cons (pv 0) (pa_cons (pe_bltn (v := .ty "list") (by rfl) T.list (by decide +kernel) rfl) pa_nil)))) (pss_one ps_never) pss_nil)
      (pss_cons (ps_if (pt_val (pe_callB call_isi (by rfl) T.isi (by decide +kernel) (pa_cons (pv 0) (pa_cons (pe_bltn (v := .ty "tuple") (by rfl) T.tuple (by decide +kernel) rfl) pa_nil)))) (pss_one ps_never) pss_nil)
      (pss_cons (ps_if (pt_val (pe_callB call_isi (by rfl) T.isi (by decide +kernel) (pa_cons (pv 0) (pa_cons (pe_bltn (v := .ty "dict") (by rfl) T.dict (by decide +kernel) rfl) pa_nil))))
        (pss_one (ps_ret (pe_lock (pe_dc (own := [("name", 2)]) (g := gName 2) (tt := tYes) rfl nd (pi_keys (pv 0)) (blkOk_by (N := nCopied) (sc := defScope sCopied) (by decide +kernel)) (fun _ _ _ _ _ => pg_name (i := 2) nd rfl (Or.inl rfl)) (fun _ _ _ _ _ => pts_nil) (fun _ _ _ _ _ => pv 2) (fun _ _ _ _ _ => pe_cal cC h1 (pa_cons (pe_dget hu (pv 0) (pv 2) (fun _ _ => rfl)) pa_nil)))))) pss_nil)
      (pss_one (ps_ret (pv 0)))))), ?_⟩
    rcases h with ⟨⟨⟨t1, h1, k1⟩, ⟨t2, h2, k2⟩, ⟨t3, h3, k3⟩⟩, k⟩ | ⟨d, kvs, rfl, hd, hn, hv, hl, k⟩
    · exact ⟨_, rfl, _, _, _, _, false, rfl, .ty _, h1, k1, false, rfl, itFb rfl ⟨_, rfl, _, _, _, _, false, rfl, .ty _, h2, k2, false, rfl, itFb rfl ⟨_, rfl, _, _, _, _, false, rfl, .ty _, h3, k3, false, rfl, itFb rfl ⟨_, rfl, k⟩⟩⟩⟩
    · have td : TyX K H (.ref d) (.type "dict") := .base (.dK hd)
      refine ⟨_, rfl, _, _, _, _, false, rfl, .ty _, td, kit_ty (by decide +kernel), false, rfl, itFb rfl ⟨_, rfl, _, _, _, _, false, rfl, .ty _, td, kit_ty (by decide +kernel), false, rfl, itFb rfl ⟨_, rfl, _, _, _, _, true, rfl, .ty _, td, kit_ty (by decide +kernel), true, rfl, itTb rfl ?_⟩⟩⟩
      refine ⟨d, _, hd, trivial, fun od => ?_⟩
      have kf : Keep d H (upd H d (.frz od (.dK kvs))) := fun b o n e => by rw [upd_ne n]; exact e
      have hdf : (upd H d (.frz od (.dK kvs))) d = some (.frz od (.dK kvs)) := upd_same
      have nf : ∀ b, (upd H d (.frz od (.dK kvs))) b = none → H b = none := fun b e => by
        by_cases eb : b = d
        · subst eb
          rw [hdf] at e
          cases e
        · rw [upd_ne eb] at e
          exact e
      generalize upd H d (.frz od (.dK kvs)) = Hf at kf hdf nf ⊢
      refine ⟨_, rfl, d, _, rfl, .inl ⟨_, hdf, fun D nD => ?_⟩⟩
      have Dd : D ≠ d := fun e => by
        subst e
        rw [hdf] at nD
        cases nD
      refine St.dc_by walk_keys (fun i A => Same Hf A ∧ A D = some (.dK (kvs.take i))) ⟨Lw.Same.new (Same.refl Hf) nD, upd_same⟩ (fun i A _ h => h.1 _ _ hdf) ?_ ?_
      · rintro i x A B hi ⟨sA, gD⟩ ⟨rfl, k0, v0, hkv, rfl⟩
        have hb := sA _ _ hdf
        refine ⟨rfl, _, rfl, _, rfl, _, rfl, d, v0, rfl, .inl ⟨kvs, k0, .inr ⟨_, hb⟩, rfl, ?_⟩, v0, rfl, plain_int (hv _ (List.mem_of_getElem? hkv)), _, k0, rfl, gD, ?_, same_at nD sA, ?_⟩
        · exact (valV_mem hn (k0, v0) (List.mem_of_getElem? hkv)).symm
        · refine Nat.lt_of_le_of_lt (by rw [List.length_take]; exact Nat.le_trans (Nat.min_le_right _ _) hl) (by decide)
        · rw [upd_same, take_snocK hkv hn]
      · rintro A ⟨sA, gD⟩
        refine ⟨sA _ _ hdf, ?_⟩
        rw [List.take_length] at gD
        refine k D _ (fun b o e => ?_) (nf D nD) (by rw [upd_ne Dd]; exact gD)
        by_cases eb : b = d
        · subst eb
          rw [hd] at e
          rw [upd_same]
          exact e
        · rw [upd_ne eb]
          exact sA _ _ (kf _ _ eb e)
end
end Lw

set_option Elab.async false
set_option linter.all false
set_option maxRecDepth 100000
set_option maxHeartbeats 40000000
namespace Lw
open PySem PySem.Spec PyProof.Rows L2
abbrev sRefI : Stmt := inClass (top 7) 0
section
variable {P : Program} {w : World} {K : PySem.W.Frag} {mg : Str → Option Value} {base : Heap}
/-! Refused(message, row) -/
def refF (m : Addr) (r : V) : List (Str × V) := [("row", r), ("message", .ref m)]
/-- the row, as an error keeps it -/
def RowE (G : Hp) (x : V) (o : Option (List (Key × V))) : Prop := (o = none ∧ x = .non) ∨ ∃ d kvs, o = some kvs ∧ x = .ref d ∧ G d = some (.dK kvs)
theorem RowE.same {H G : Hp} {x : V} {o : Option (List (Key × V))} (s : Same H G) (h : RowE H x o) : RowE G x o := by
  rcases h with h | ⟨d, kvs, e1, e2, e3⟩
  · exact .inl h
  · exact .inr ⟨d, kvs, e1, e2, s _ _ e3⟩
def spRefI (K : PySem.W.Frag) (C : Addr) : Sp := fun vs H Q _ => ∃ (a m : Addr) (x : V) (o : Option (List (Key × V))), vs = [.ref a, .ref m, x] ∧ Plain3 K H (.ref m) ∧ RowE H x o ∧ (∀ kvs, o = some kvs → (kvs.map (·.1)).Nodup ∧ (∀ q ∈ kvs, IntN q.2) ∧ kvs.length ≤ 100) ∧ H a = some (exo a C none) ∧ m ≠ a ∧
  ∀ (d : Addr) (r : V) (G : Hp), H d = none → d ≠ a → Keep a H G → G a = some (exo a C (some d)) → G d = some (exd d (refF m r)) → RowE G r o → Q .non G
structure TxtRf (K : PySem.W.Frag) (mg : Str → Option Value) (C : Addr) (newId : String) : Prop where
  oex : Ge.OexT K C Ge.rtTail newId
  nM : PySem.W.findIn K (.ref C) "message" = some none
  nR : PySem.W.findIn K (.ref C) "row" = some none
  gR : mg "Refused" = some (.ref C)
theorem scRefI : FnScope ["self", "message", "row"] ["self", "message", "row"] (defScope sRefI) := ⟨rfl, rfl, rfl, by decide +kernel, rfl, by decide +kernel, by decide +kernel⟩
theorem Plain3.keep {K : PySem.W.Frag} {G : Hp} {m C dx : Addr} {fs : List (Str × V)} (T : TxtC1 K C) (h1 : PySem.W.kitOne K (.ref C) (.type "list") = some false) (h2 : PySem.W.kitOne K (.ref C) (.type "tuple") = some false) (h3 : PySem.W.kitOne K (.ref C) (.type "dict") = some false) (e : G m = some (.ins C dx fs)) : Plain3 K G (.ref m) :=
  have ty : TyX K G (.ref m) (.ref C) := .base (.ins e T.cl T.ha T.hn T.ht T.hm)
  ⟨⟨_, ty, h1⟩, ⟨_, ty, h2⟩, ⟨_, ty, h3⟩⟩
theorem ok_refI {C f : Addr} {fd : FuncData} {newId : String} (F : MethD K "__init__" "Refused.__init__" sRefI f fd) (T : TxtRf K mg C newId) (cC : Cal P w K mg base CX0 "copied" 2 ["value"] (spCopV K)) : FnOk P w K mg base CX0 3 f fd ["self", "message", "row"] (spRefI K C) := by
  refine F.ok scRefI (fun vs H Q E h => ?_) (fun cdv A outer s H vs Q E hr h => ?_)
  · obtain ⟨a, m, x, o, rfl, _⟩ := h
    rfl
  · obtain ⟨a, m, x, o, rfl, hm, hx, ho, ha, ma, k⟩ := h
    have h2 : Room 2 _ := hr.mono (by decide)
    refine ⟨_, PSs.nox (pss_cons (Ge.ps_ostT (pv 0) (pe_cal cC hr (pa_cons (pv 1) pa_nil))) (pss_one (Gf.ps_ostN (pv 0) (pe_cal cC hr (pa_cons (pv 2) pa_nil))))), ?_⟩
    refine ⟨_, rfl, _, rfl, .inl ⟨hm, ?_⟩⟩
    refine ⟨_, rfl, a, C, _, _, rfl, T.oex, T.nM, ha, fun d nd da => ?_⟩
    have k0 : Keep a H (upd (upd H d (exd d [("message", .ref m)])) a (exo a C (some d))) := fun b o n e => by
      rw [upd_ne n, upd_ne (ne_of_none e nd)]
      exact e
    have ga : (upd (upd H d (exd d [("message", .ref m)])) a (exo a C (some d))) a = some (exo a C (some d)) := upd_same
    have gd : (upd (upd H d (exd d [("message", .ref m)])) a (exo a C (some d))) d = some (exd d [("message", .ref m)]) := by
      rw [upd_ne da]
      exact upd_same
    generalize upd (upd H d (exd d [("message", .ref m)])) a (exo a C (some d)) = G at k0 ga gd ⊢
    have fin : ∀ (r : V) (G2 : Hp), Same G G2 → RowE G2 r o → (∀ e, r = .ref e → e ≠ d) → Q .non (upd G2 d (exd d (refF m r))) := fun r G2 s hr nr => by
      refine k d r _ nd da (fun b o n e => ?_) ?_ upd_same ?_
      · rw [upd_ne (ne_of_none e nd)]
        exact s _ _ (k0 _ _ n e)
      · rw [upd_ne da.symm]
        exact s _ _ ga
      · rcases hr with h | ⟨e, kvs, e1, e2, e3⟩
        · exact .inl h
        · refine .inr ⟨e, kvs, e1, e2, ?_⟩
          rw [upd_ne (nr e e2)]
          exact e3
    refine ⟨_, rfl, _, rfl, ?_⟩
    rcases hx with ⟨e, rfl⟩ | ⟨e, kvs, e1, rfl, e3⟩
    · refine .inl ⟨plain_int (.inr rfl), _, rfl, a, C, d, _, _, _, rfl, T.oex, T.nR, ga, gd, (by show 1 ≤ 900; decide), ?_⟩
      exact fin .non G (Same.refl G) (.inl ⟨e, rfl⟩) (fun _ h => by cases h)
    · obtain ⟨n1, n2, n3⟩ := ho kvs e1
      have ea : e ≠ a := fun z => by
        subst z
        rw [ha] at e3
        cases e3
      refine .inr ⟨e, kvs, rfl, k0 _ _ ea e3, n1, n2, n3, fun q G2 s nq gq => ⟨_, rfl, a, C, d, _, _, _, rfl, T.oex, T.nR, s _ _ ga, s _ _ gd, (by show 1 ≤ 900; decide), ?_⟩⟩
      refine fin (.ref q) G2 s (.inr ⟨q, kvs, e1, rfl, gq⟩) (fun z h => ?_)
      cases h
      exact (ne_of_none gd nq).symm
structure RefT (P : Program) (w : World) (K : PySem.W.Frag) (mg : Str → Option Value) (base : Heap) (C : Addr) : Prop where
  ex : ∃ newId f fd, TxtRf K mg C newId ∧ ExcBaseFacts "RuntimeError" newId "RuntimeError.__init__" Ge.rtTail ∧ PySem.W.findIn K (.ref C) "__init__" = some (some (.ref f)) ∧ PySem.W.typeIn K (.ref f) = some (.type "function") ∧ FnOk P w K mg base CX0 3 f fd ["self", "message", "row"] (spRefI K C) ∧ Binds K fd ["self", "message", "row"] []
end
section
variable {X : Cx} {C : Addr} {e1 e2 : Expr} {t : TA} {p pos pos2 : Pos} {W : WX}
theorem ps_refused (B : RefT X.prog X.w X.K X.mg X.base C) (hc : X.calm = true) (hr : Room 4 X.A) (tk : L2N.Takes X W) (ha : PA X [e1, e2] t) (hg : Gl X "Refused" := by rfl)
    (he : starEach [e1, e2] X.env = (false, eval e1 X.env) :: starEach [e2] X.env := by rfl) (hpl : (backTo pos (starEach [e2] X.env)).any (·.1) = false := by rfl) :
    PS X (.Raise (some (.Call (.Name "Refused" p) [e1, e2] [] pos)) none pos2) (fun _ σ H => tMkO C (spRefI X.K C) [] t σ H fun cls d H' => W cls d σ H') := by
  obtain ⟨newId, f, fd, T, B2, h1, h2, F, b⟩ := B.ex
  exact L2N.ps_raise hc tk (Ge.pmk_T B2 T.oex h1 h2 F hr b .nil pass0 T.gR ha hg (by decide) he hpl)
end
theorem refused_tail {K : PySem.W.Frag} {C m : Addr} {x : V} {o : Option (List (Key × V))} {H : Hp} {E : XK} (hm : ∀ G, Same H G → Plain3 K G (.ref m)) (hmx : ∃ z, H m = some z) (hx : RowE H x o) (ho : ∀ kvs, o = some kvs → (kvs.map (·.1)).Nodup ∧ (∀ q ∈ kvs, IntN q.2) ∧ kvs.length ≤ 100)
    (k : ∀ d r G, H d = none → Same H G → G d = some (.xd (refF m r)) → RowE G r o → E (.ref C) (some d) G) :
    ([.ref m, x] : List V).length ≤ 1000 ∧ ∀ a, H a = none → spRefI K C (.ref a :: ([.ref m, x] ++ [])) (upd H a (exo a C none)) (fun v H2 => v = .non ∧ ∃ (d : Addr) (fs : List (Str × V)), H2 a = some (exo a C (some d)) ∧ H2 d = some (exd d fs) ∧ H d = none ∧ E (.ref C) (some d) (upd (del H2 a) d (.xd fs))) (fun _ _ _ => False) := by
  refine ⟨by show 2 ≤ 1000; decide, fun a na => ?_⟩
  have s0 := Lw.Same.new (o := exo a C none) (Same.refl H) na
  obtain ⟨z, hz⟩ := hmx
  refine ⟨a, m, x, o, rfl, hm _ s0, hx.same s0, ho, upd_same, ne_of_none hz na, fun d r G nd da kG ga gd hr => ⟨rfl, d, refF m r, ga, gd, ?_, ?_⟩⟩
  · rw [upd_ne da] at nd
    exact nd
  · rw [upd_ne da] at nd
    refine k d r _ nd (fun b o2 e => ?_) upd_same ?_
    · have ba := ne_of_none e na
      rw [upd_ne (ne_of_none e nd), del_ne ba]
      exact kG b o2 ba (s0 _ _ e)
    · rcases hr with h | ⟨e, kvs, e1, e2, e3⟩
      · exact .inl h
      · have ea : e ≠ a := fun q => by
          subst q
          rw [ga] at e3
          cases e3
        have ed : e ≠ d := fun q => by
          subst q
          rw [gd] at e3
          cases e3
        refine .inr ⟨e, kvs, e1, e2, ?_⟩
        rw [upd_ne ed, del_ne ea]
        exact e3
section
variable {P : Program} {w : World} {K : PySem.W.Frag} {mg : Str → Option Value} {base : Heap}
end
end Lw

set_option Elab.async false
set_option linter.all false
set_option maxRecDepth 100000
set_option maxHeartbeats 40000000
namespace Lw
open PySem PySem.Spec PyProof.Rows L2
abbrev sApplied : Stmt := top 16
section
variable {P : Program} {w : World} {K : PySem.W.Frag} {mg : Str → Option Value} {base : Heap}
/-! applied, refusals too -/
theorem merge_new : ∀ (kvs acc : List (Key × V)), ((acc ++ kvs).map (·.1)).Nodup → mergeK acc kvs = acc ++ kvs
  | [], acc, _ => by rw [List.append_nil]; rfl
  | (k, v) :: r, acc, n => by
    have hk : valV acc k = none := by
      cases e : valV acc k with
      | none => rfl
      | some y =>
        have : (valV acc k).isSome = true := by rw [e]; rfl
        rw [← valV_any] at this
        obtain ⟨p, h1, h2⟩ := List.any_eq_true.mp this
        rw [List.map_append, List.map_cons] at n
        obtain ⟨_, _, n3⟩ := List.nodup_append.mp n
        exact absurd rfl (n3 k (List.mem_map.mpr ⟨p, h1, of_decide_eq_true h2⟩) k List.mem_cons_self)
    show mergeK (putK acc k v) r = _
    rw [L2.putK_new v hk, merge_new r _ (by rw [List.append_assoc]; exact n), List.append_assoc]
    rfl
theorem zip_keys {cols : List Str} {row : List V} (h : row.length = cols.length) : ((cols.map (Sum.inr : Str → Key)).zip row).map (·.1) = cols.map Sum.inr := by
  have := List.map_fst_zip (l₁ := cols.map (Sum.inr : Str → Key)) (l₂ := row) (by rw [List.length_map]; omega)
  exact this
theorem inr_nodup {cols : List Str} (n : cols.Nodup) : (cols.map (Sum.inr : Str → Key)).Nodup := List.Pairwise.map _ (fun a b ne q => ne (Sum.inr.inj q)) n
theorem cells_zip {cols : List Str} {row : List V} (n : cols.Nodup) (h : row.length = cols.length) : cellsK cols row = (cols.map Sum.inr).zip row := by
  unfold cellsK
  rw [merge_new _ [] (by rw [List.nil_append, zip_keys h]; exact inr_nodup n), List.nil_append]
theorem cells_row {cols : List Str} {row : List V} (n : cols.Nodup) (h : row.length = cols.length) (l : cols.length ≤ 60) (hv : ∀ v ∈ row, IntN v) : ((cellsK cols row).map (·.1)).Nodup ∧ (∀ q ∈ cellsK cols row, IntN q.2) ∧ (cellsK cols row).length ≤ 100 := by
  rw [cells_zip n h]
  refine ⟨by rw [zip_keys h]; exact inr_nodup n, fun q hq => hv _ (List.of_mem_zip hq).2, ?_⟩
  rw [List.length_zip, List.length_map]
  omega
def WayOk2 (way : Str) (o : Option (List V × List Int)) : Prop := way = "one" ∨ way = "all" ∨ way = "keep" ∨ way = "merge" → o.isSome = true
def MsK (K : PySem.W.Frag) (CP CC CT : Addr) : Prop := ∀ z ∈ deeds, PySem.W.kitOne K (.ref (clsOf CP CC CT z)) (.type "list") = some false ∧ PySem.W.kitOne K (.ref (clsOf CP CC CT z)) (.type "tuple") = some false ∧ PySem.W.kitOne K (.ref (clsOf CP CC CT z)) (.type "dict") = some false
def toldO (cols : List Str) (o : Option (List V × List Int)) : Option (List (Key × V)) := o.map fun q => cellsK cols q.1
def AppR (way : Str) (cols : List Str) (kvs : List (Key × V)) (f : Int) (o o' : Option (List V × List Int)) : Prop :=
  (way = "skip" ∧ o' = o) ∨ (way ≠ "skip" ∧ ((way = "one" ∨ way = "all") ∧ o' = takenO way f (rowD o) (holdD o) ∨ way ≠ "one" ∧ way ≠ "all" ∧ ∃ ys : List Int, o' = some (writ way kvs cols o, ys) ∧ ys.Pairwise (· ≤ ·) ∧ ys.Nodup ∧ ∀ z, z ∈ ys ↔ z = f ∨ z ∈ holdD o))
def spApplied (CH CP CC CT CR : Addr) : Sp := fun vs H Q E => ∃ (c h m : Addr) (b : Hab) (cols : List Str) (v : V) (o : Option (List V × List Int)) (N : Hp) (z : Str) (key f : Int) (kvs : List (Key × V)), vs = [.ref c, .ref h, v, .ref m, .int f] ∧ H c = some (.tup (cols.map V.str)) ∧ cols.Nodup ∧ cols.length ≤ 60 ∧ HabAt CH H h b ∧ HeldV H v o ∧ Msg CP CC CT N H m z key kvs ∧
  (∀ row fs, o = some (row, fs) → row.length = cols.length ∧ fs.length ≤ 50 ∧ ∀ v ∈ row, IntN v) ∧ WayOk2 (wayOf b o.isSome z) o ∧ (wayOf b o.isSome z = "stop" → ∀ d r G, H d = none → Same H G → G d = some (.xd (refF m r)) → RowE G r (toldO cols o) → E (.ref CR) (some d) G) ∧ (wayOf b o.isSome z ≠ "stop" → ∀ x o' G, Same H G → AppR (wayOf b o.isSome z) cols kvs f o o' → HeldV G x o' → Q x G)
abbrev nApplied : List Str := ["columns", "habits", "held", "message", "feed", "way"]
theorem scApplied : FnScope nApplied ["columns", "habits", "held", "message", "feed"] (defScope sApplied) := ⟨rfl, rfl, rfl, by decide +kernel, rfl, by decide +kernel, by decide +kernel⟩
theorem ok_applied {CH CP CC CT CM CR f : Addr} {fd : FuncData} (F : FnP K "applied" sApplied f fd) (M : MsF P w K mg base CP CC CT CM) (cW : Cal P w K mg base CX0 "_way" 1 ["habits", "held", "deed"] (spWay CH)) (cT : Cal P w K mg base CX0 "_taken" 1 ["held", "feed", "way"] spTakenC)
    (cR : Cal P w K mg base CX0 "_written" 2 ["columns", "held", "cells", "way"] spWritten) (cJ : Cal P w K mg base CX0 "_joined" 1 ["held", "feed"] spJoinC)
    (cRo : Cal P w K mg base CX0 "row_of" 1 ["held"] spRowOf) (cCo : Cal P w K mg base CX0 "cells_of" 1 ["columns", "row"] spCellsOf) (R : RefT P w K mg base CR) (MK : MsK K CP CC CT) : FnOk P w K mg base (L2N.CX P w) 5 f fd ["columns", "habits", "held", "message", "feed"] (spApplied CH CP CC CT CR) := by
  refine F.ok scApplied (fun vs H Q E h => ?_) (fun cdv A outer s H vs Q E hr h => ?_)
  · obtain ⟨c, h, m, b, cols, v, o, N, z, key, fe, kvs, rfl, _⟩ := h
    rfl
  · obtain ⟨c, h, m, b, cols, v, o, N, z, key, fe, kvs, rfl, hc, ncl, lc, hh, hv, hm, hrow, w2, kE, k⟩ := h
    have nd := scApplied.nd
    have h1 : Room 1 _ := hr.mono (by decide)
    have h2 : Room 2 _ := hr.mono (by decide)
    obtain ⟨hz, dx, fs, hi, hl⟩ := hm.at
    have Z := M.one z hz
    obtain ⟨uc, hcon⟩ := Z.con
    refine ⟨_, pss_cons (ps_set (i := 5) nd rfl (Or.inl rfl) (pe_cal cW h1 (pa_cons (pv 1) (pa_cons (pv 2) (pa_cons (pe_con (pv 3) (by rfl)) pa_nil)))))
      (pss_cons (ps_if (pt_cmpR op_eq (pv 5) pe_str (nomark _)) (pss_one (ps_refused R rfl hr (L2N.takes_of rfl rfl rfl rfl) (pa_cons (pv 3) (pa_cons (pe_cal cCo h1 (pa_cons (pv 0) (pa_cons (pe_cal cRo h1 (pa_cons (pv 2) pa_nil)) pa_nil))) pa_nil)))) pss_nil)
      (pss_cons (ps_if (pt_cmpR op_eq (pv 5) pe_str (nomark _)) (pss_one (ps_ret (pv 2))) pss_nil)
      (pss_cons (ps_if (pt_cmpR op_in_seq (pv 5) (pe_tup (pa_cons pe_str (pa_cons pe_str pa_nil))) (by rfl)) (pss_one (ps_ret (pe_cal cT h1 (pa_cons (pv 2) (pa_cons (pv 4) (pa_cons (pv 5) pa_nil)))))) pss_nil)
      (pss_one (ps_ret (pe_tup (pa_cons (pe_cal cR h2 (pa_cons (pv 0) (pa_cons (pv 2) (pa_cons (pe_cells M (pv 3) h2 (by rfl)) (pa_cons (pv 5) pa_nil))))) (pa_cons (pe_cal cJ h1 (pa_cons (pv 2) (pa_cons (pv 4) pa_nil))) pa_nil)))))))), ?_⟩
    refine sq_set (fun x G => x = .str (wayOf b o.isSome z) ∧ H = G) (fun Q q => ?_) ?_
    · exact ⟨_, rfl, _, rfl, _, rfl, m, _, dx, _, .str z, uc, rfl, hi, Z.T.cl, hcon, hl, h, b, v, o, z, rfl, hh, hv, q _ _ ⟨rfl, rfl⟩⟩
    rintro _ _ ⟨rfl, rfl⟩
    generalize hway : wayOf b o.isSome z = way at w2 kE k ⊢
    refine ⟨_, rfl, rfl, _, rfl, str_it (fun e => ?_) (fun e0 => ?_)⟩
    · subst e
      have Zk := MK z hz
      have pm : ∀ G, Same H G → Plain3 K G (.ref m) := fun G s => Plain3.keep Z.T Zk.1 Zk.2.1 Zk.2.2 (s _ _ hi)
      have ro : ∀ kvs', toldO cols o = some kvs' → (kvs'.map (·.1)).Nodup ∧ (∀ q ∈ kvs', IntN q.2) ∧ kvs'.length ≤ 100 := fun kvs' e => by
        cases o with
        | none => cases e
        | some q =>
          cases e
          obtain ⟨r1, _, r3⟩ := hrow q.1 q.2 rfl
          exact cells_row ncl r1 lc r3
      refine ⟨_, rfl, _, rfl, _, rfl, v, o, rfl, hv, fun x hx => ?_⟩
      refine ⟨c, cols, x, _, rfl, hc, hx, fun e => ?_, fun row e => ?_⟩
      · refine refused_tail (o := toldO cols o) pm ⟨_, hi⟩ ?_ ro (kE rfl)
        cases o with
        | none => exact .inl ⟨rfl, rfl⟩
        | some q => cases e
      · cases o with
        | none => cases e
        | some q =>
          cases e
          obtain ⟨r1, _, _⟩ := hrow q.1 q.2 rfl
          refine ⟨r1, fun p np => ?_⟩
          have sp := Lw.Same.new (o := .dK (cellsK cols q.1)) (Same.refl H) np
          refine refused_tail (o := toldO cols (some q)) (fun G s => pm G (sp.trans s)) ⟨_, sp _ _ hi⟩ (.inr ⟨p, _, rfl, rfl, upd_same⟩) ro (fun d r G nd s => kE rfl d r G (none_of_same sp nd) (sp.trans s))
    refine ⟨_, rfl, rfl, _, rfl, str_it (fun e => ?_) (fun e1 => ?_)⟩
    · exact ⟨_, rfl, k e0 v o _ (Same.refl _) (.inl ⟨e, rfl⟩) hv⟩
    refine ⟨_, rfl, (by show 2 ≤ sizeLine; decide), fun t nt => ⟨t, _, rfl, .inr (SqT.of upd_same), rfl, flat_strs ["one", "all"], _, rfl, ?_⟩⟩
    have st := Lw.Same.new (o := .tup [.str "one", .str "all"]) (Same.refl H) nt
    have hin : inV (.str way) [.str "one", .str "all"] = decide (way ∈ (["one", "all"] : List Str)) := inV_str way ["one", "all"]
    by_cases h1a : way = "one" ∨ way = "all"
    · have hin2 : inV (.str way) [.str "one", .str "all"] = true := by
        rw [hin]
        rcases h1a with e | e <;> subst e <;> decide
      refine itTb (by rw [if_neg Bool.false_ne_true]; exact hin2) ?_
      have hs : o.isSome = true := w2 (by rcases h1a with e | e; exact .inl e; exact .inr (.inl e))
      rcases hv.same st with ⟨rfl, rfl⟩ | ⟨p, r, u, row, fs2, rfl, rfl, g1, g2, g3⟩
      · cases hs
      obtain ⟨hrl, hfl, _⟩ := hrow row fs2 rfl
      refine ⟨_, rfl, _, rfl, _, rfl, p, fe, way, row, fs2, rfl, .inr ⟨p, r, u, row, fs2, rfl, rfl, g1, g2, g3⟩, by omega, fun x G sG hx => ?_⟩
      exact k e0 x _ G (st.trans sG) (.inr ⟨e1, .inl ⟨h1a, rfl⟩⟩) hx
    · have n1 : way ≠ "one" := fun e => h1a (.inl e)
      have n2 : way ≠ "all" := fun e => h1a (.inr e)
      have hin2 : inV (.str way) [.str "one", .str "all"] = false := by
        rw [hin]
        exact decide_eq_false fun hm => by
          rcases List.mem_cons.mp hm with e | hm
          · exact n1 e
          rcases List.mem_cons.mp hm with e | hm
          · exact n2 e
          · cases hm
      refine itFb (by rw [if_neg Bool.false_ne_true]; exact hin2) ?_
      refine ⟨_, rfl, _, rfl, cells_of (hm.same st) rfl fun d nd2 => ?_⟩
      have sd := Lw.Same.new (o := .dK kvs) (Same.refl _) nd2
      have s2 := st.trans sd
      refine ⟨_, rfl, c, d, cols, v, o, kvs, way, rfl, s2 _ _ hc, lc, hv.same s2, upd_same, ?_, fun r G sG gr => ?_⟩
      · intro e
        have hs : o.isSome = true := w2 (by rcases e with e | e; exact .inr (.inr (.inl e)); exact .inr (.inr (.inr e)))
        cases o with
        | none => cases hs
        | some q => exact ⟨q.1, q.2, rfl, (hrow q.1 q.2 rfl).1⟩
      have s3 := s2.trans sG
      refine ⟨_, rfl, _, rfl, v, fe, o, rfl, hv.same s3, ?_, fun t2 ys G2 s4 g2 so ny my => ?_⟩
      · cases o with
        | none => exact Nat.zero_le _
        | some q => exact (hrow q.1 q.2 rfl).2.1
      refine ⟨(by show 2 ≤ sizeLine; decide), fun q nq => ?_⟩
      have s5 := Lw.Same.new (o := .tup [.ref r, .ref t2]) (Same.refl G2) nq
      exact k e0 (.ref q) _ _ (s3.trans (s4.trans s5)) (.inr ⟨e1, .inr ⟨n1, n2, ys, rfl, so, ny, my⟩⟩) (.inr ⟨q, r, t2, _, ys, rfl, rfl, upd_same, s5 _ _ (s4 _ _ gr), s5 _ _ g2⟩)
end
end Lw

set_option Elab.async false
set_option linter.all false
set_option maxRecDepth 100000
set_option maxHeartbeats 40000000
namespace Lw
open PySem PySem.Spec PyProof.Rows L2
abbrev sCopyI : Stmt := inClass (top 23) 0
abbrev sHolders : Stmt := inClass (top 23) 3
abbrev sConC : Stmt := inClass (top 23) 5
abbrev sGetI : Stmt := inClass (top 23) 4
section
variable {P : Program} {w : World} {K : PySem.W.Frag} {mg : Str → Option Value} {base : Heap}
/-! a copy -/
def MapAt (G : Hp) (mks : List (Key × V)) (st : Int → Option (List V × List Int)) : Prop := (mks.map (·.1)).Nodup ∧ (∀ k : Int, (HeldV G ((valV mks (Sum.inl k)).getD .non) (st k) ∧ valV mks (Sum.inl k) ≠ some .non)) ∧ ∀ q ∈ mks, ∃ i : Int, q.1 = Sum.inl i
def KsOk (ks : List Int) (st : Int → Option (List V × List Int)) : Prop := ks.Pairwise (· ≤ ·) ∧ ks.Nodup ∧ ∀ k, k ∈ ks ↔ (st k).isSome = true
def Keep2 (p d : Addr) (H G : Hp) : Prop := ∀ a o, a ≠ p → a ≠ d → H a = some o → G a = some o
structure CopyOk (CY CH : Addr) (G : Hp) (p d h : Addr) (b : Hab) (cols : List Str) (n : Nat) (st : Int → Option (List V × List Int)) : Prop where
  at_ : ∃ dx t l mks ks, G p = some (.ins CY dx [("columns", .ref t), ("habits", .ref h), ("_held", .ref d), ("_keys", .ref l)]) ∧ G t = some (.tup (cols.map V.str)) ∧ G d = some (.dK mks) ∧ G l = some (.lst (ks.map V.int)) ∧ mks.length ≤ n ∧ ks.length ≤ n ∧ MapAt G mks st ∧ KsOk ks st
  hab : HabAt CH G h b
theorem MapAt.move {H G : Hp} {mks : List (Key × V)} {st : Int → Option (List V × List Int)} (m : MapAt H mks st) (k : ∀ (b : Addr) (xs : List V), H b = some (.tup xs) → G b = some (.tup xs)) : MapAt G mks st := ⟨m.1, fun i => ⟨(m.2.1 i).1.move k, (m.2.1 i).2⟩, m.2.2⟩
theorem CopyOk.same {CY CH : Addr} {H G : Hp} {p d h : Addr} {b : Hab} {cols : List Str} {n : Nat} {st : Int → Option (List V × List Int)} (s : Same H G) (c : CopyOk CY CH H p d h b cols n st) : CopyOk CY CH G p d h b cols n st := by
  obtain ⟨dx, t, l, mks, ks, h1, h2, h3, h4, l1, l2, m, k⟩ := c.at_
  obtain ⟨dh, h5⟩ := c.hab
  exact ⟨⟨dx, t, l, mks, ks, s _ _ h1, s _ _ h2, s _ _ h3, s _ _ h4, l1, l2, m.move fun b xs e => s _ _ e, k⟩, dh, s _ _ h5⟩
theorem MapAt.val {G : Hp} {mks : List (Key × V)} {st : Int → Option (List V × List Int)} (m : MapAt G mks st) (k : Int) : (valV mks (Sum.inl k)).isSome = (st k).isSome := by
  obtain ⟨h1, h2⟩ := m.2.1 k
  cases e : valV mks (Sum.inl k) with
  | none =>
    rw [e] at h1
    rcases h1 with ⟨_, e2⟩ | ⟨p, r, t, row, fs, e2, _⟩
    · rw [e2]
      rfl
    · cases e2
  | some v =>
    rw [e] at h1 h2
    rcases h1 with ⟨e2, _⟩ | ⟨p, r, t, row, fs, _, e2, _⟩
    · have e3 : v = .non := e2
      rw [e3] at h2
      exact absurd rfl h2
    · rw [e2]
      rfl
structure TxtY (K : PySem.W.Frag) (CY : Addr) : Prop where
  cl : Cls K CY
  n1 : NoAttr K CY "columns"
  n2 : NoAttr K CY "habits"
  n3 : NoAttr K CY "_held"
  n4 : NoAttr K CY "_keys"
def spCopyI (CY CH : Addr) : Sp := fun vs H Q _ => ∃ (p dx l h : Addr) (cols : List Str) (b : Hab), vs = [.ref p, .ref l, .ref h] ∧ H p = some (.ins CY dx []) ∧ (H l = some (.lst (cols.map V.str)) ∨ H l = some (.tup (cols.map V.str))) ∧ HabAt CH H h b ∧ ∀ d G, H d = none → Keep p H G → CopyOk CY CH G p d h b cols 0 (fun _ => none) → Q .non G
theorem scCopyI : FnScope ["self", "columns", "habits"] ["self", "columns", "habits"] (defScope sCopyI) := ⟨rfl, rfl, rfl, by decide +kernel, rfl, by decide +kernel, by decide +kernel⟩
theorem ok_copyI {CY CH f : Addr} {fd : FuncData} (F : MethD K "__init__" "Copy.__init__" sCopyI f fd) (T : TxtY K CY) (ht : mg "tuple" = none) : FnOk P w K mg base CX0 1 f fd ["self", "columns", "habits"] (spCopyI CY CH) := by
  refine F.ok scCopyI (fun vs H Q E h => ?_) (fun cdv A outer s H vs Q E hr h => ?_)
  · obtain ⟨p, dx, l, h, cols, b, rfl, _⟩ := h
    rfl
  · obtain ⟨p, dx, l, h, cols, b, rfl, hp, hl, ⟨dh, hh⟩, k⟩ := h
    refine ⟨_, PSs.nox (pss_cons (ps_fld (pv 0) (pe_callTy call_tuple_of (by rfl) ht (by decide +kernel) (pa_cons (pv 1) pa_nil)) rfl)
      (pss_cons (ps_fld (pv 0) (pv 2) rfl) (pss_cons (ps_fld (pv 0) pe_dnewK rfl) (pss_one (ps_fld (pv 0) (pe_lst pa_nil) rfl))))), ?_⟩
    rcases hl with hl | hl
    · refine ⟨_, rfl, l, _, rfl, .inl ⟨SqL.of hl, fun t nt => ?_⟩⟩
      have tp : p ≠ t := ne_of_none hp nt
      refine ⟨_, rfl, p, CY, dx, _, rfl, (by rw [upd_ne tp]; exact hp), T.cl, T.n1, (by show 0 < 1000; decide), ?_⟩
      refine ⟨_, rfl, _, rfl, p, CY, dx, _, rfl, upd_same, T.cl, T.n2, (by show 1 < 1000; decide), ?_⟩
      intro d nd
      have dp : p ≠ d := ne_of_none upd_same nd
      rw [upd_ne dp.symm, upd_ne dp.symm] at nd
      have dt : t ≠ d := ne_of_none upd_same nd
      rw [upd_ne dt.symm] at nd
      refine ⟨_, rfl, p, CY, dx, _, rfl, (by rw [upd_ne dp]; exact upd_same), T.cl, T.n3, (by show 2 < 1000; decide), ?_⟩
      refine ⟨(by show 0 ≤ sizeLine; decide), fun u nu => ?_⟩
      have up : p ≠ u := ne_of_none upd_same nu
      rw [upd_ne up.symm] at nu
      have ud : d ≠ u := ne_of_none upd_same nu
      rw [upd_ne ud.symm, upd_ne up.symm, upd_ne up.symm] at nu
      have ut : t ≠ u := ne_of_none upd_same nu
      rw [upd_ne ut.symm] at nu
      refine ⟨_, rfl, p, CY, dx, _, rfl, (by rw [upd_ne up]; exact upd_same), T.cl, T.n4, (by show 3 < 1000; decide), ?_⟩
      have hn : h ≠ p := fun e => by
        subst e
        rw [hp] at hh
        cases hh
      refine k d _ nd (fun a o n e => ?_) ⟨⟨dx, t, u, [], [], upd_same, ?_, ?_, ?_, Nat.le_refl _, Nat.le_refl _, ⟨List.nodup_nil, fun i => ⟨.inl ⟨rfl, rfl⟩, fun e => by cases e⟩, fun q h => (List.not_mem_nil h).elim⟩, List.Pairwise.nil, List.nodup_nil, fun i => ⟨fun m => (List.not_mem_nil m).elim, fun m => by cases m⟩⟩, dh, ?_⟩
      · rw [upd_ne n, upd_ne (ne_of_none e nu), upd_ne n, upd_ne (ne_of_none e nd), upd_ne n, upd_ne n, upd_ne (ne_of_none e nt)]
        exact e
      · rw [upd_ne tp.symm, upd_ne ut, upd_ne tp.symm, upd_ne dt, upd_ne tp.symm, upd_ne tp.symm, upd_same]
      · rw [upd_ne dp.symm, upd_ne ud, upd_ne dp.symm, upd_same]
      · rw [upd_ne up.symm, upd_same]
        rfl
      · rw [upd_ne hn, upd_ne (ne_of_none hh nu), upd_ne hn, upd_ne (ne_of_none hh nd), upd_ne hn, upd_ne hn, upd_ne (ne_of_none hh nt)]
        exact hh
    · have tp : p ≠ l := fun e => by
        subst e
        rw [hp] at hl
        cases hl
      refine ⟨_, rfl, l, _, rfl, .inr ⟨SqT.of hl, ?_⟩⟩
      refine ⟨_, rfl, p, CY, dx, _, rfl, hp, T.cl, T.n1, (by show 0 < 1000; decide), ?_⟩
      refine ⟨_, rfl, _, rfl, p, CY, dx, _, rfl, upd_same, T.cl, T.n2, (by show 1 < 1000; decide), ?_⟩
      intro d nd
      have dp : p ≠ d := ne_of_none upd_same nd
      rw [upd_ne dp.symm, upd_ne dp.symm] at nd
      have dt : l ≠ d := ne_of_none hl nd
      refine ⟨_, rfl, p, CY, dx, _, rfl, (by rw [upd_ne dp]; exact upd_same), T.cl, T.n3, (by show 2 < 1000; decide), ?_⟩
      refine ⟨(by show 0 ≤ sizeLine; decide), fun u nu => ?_⟩
      have up : p ≠ u := ne_of_none upd_same nu
      rw [upd_ne up.symm] at nu
      have ud : d ≠ u := ne_of_none upd_same nu
      rw [upd_ne ud.symm, upd_ne up.symm, upd_ne up.symm] at nu
      have ut : l ≠ u := ne_of_none hl nu
      refine ⟨_, rfl, p, CY, dx, _, rfl, (by rw [upd_ne up]; exact upd_same), T.cl, T.n4, (by show 3 < 1000; decide), ?_⟩
      have hn : h ≠ p := fun e => by
        subst e
        rw [hp] at hh
        cases hh
      refine k d _ nd (fun a o n e => ?_) ⟨⟨dx, l, u, [], [], upd_same, ?_, ?_, ?_, Nat.le_refl _, Nat.le_refl _, ⟨List.nodup_nil, fun i => ⟨.inl ⟨rfl, rfl⟩, fun e => by cases e⟩, fun q h => (List.not_mem_nil h).elim⟩, List.Pairwise.nil, List.nodup_nil, fun i => ⟨fun m => (List.not_mem_nil m).elim, fun m => by cases m⟩⟩, dh, ?_⟩
      · rw [upd_ne n, upd_ne (ne_of_none e nu), upd_ne n, upd_ne (ne_of_none e nd), upd_ne n, upd_ne n]
        exact e
      · rw [upd_ne tp.symm, upd_ne ut, upd_ne tp.symm, upd_ne dt, upd_ne tp.symm, upd_ne tp.symm]
        exact hl
      · rw [upd_ne dp.symm, upd_ne ud, upd_ne dp.symm, upd_same]
      · rw [upd_ne up.symm, upd_same]
        rfl
      · rw [upd_ne hn, upd_ne (ne_of_none hh nu), upd_ne hn, upd_ne (ne_of_none hh nd), upd_ne hn, upd_ne hn]
        exact hh
/-! what a copy is asked -/
def spHolders (CY CH : Addr) : Sp := fun vs H Q _ => ∃ (p d h : Addr) (b : Hab) (cols : List Str) (n : Nat) (st : Int → Option (List V × List Int)) (key : Int), vs = [.ref p, .int key] ∧ CopyOk CY CH H p d h b cols n st ∧ ∀ t G, Same H G → G t = some (.tup ((holdD (st key)).map V.int)) → Q (.ref t) G
theorem scHolders : FnScope ["self", "key"] ["self", "key"] (defScope sHolders) := ⟨rfl, rfl, rfl, by decide +kernel, rfl, by decide +kernel, by decide +kernel⟩
theorem ok_holders {CY CH f : Addr} {fd : FuncData} (F : MethD K "holders" "Copy.holders" sHolders f fd) (T : TxtY K CY) : FnOk P w K mg base CX0 1 f fd ["self", "key"] (spHolders CY CH) := by
  refine F.ok scHolders (fun vs H Q E h => ?_) (fun cdv A outer s H vs Q E hr h => ?_)
  · obtain ⟨p, d, h, b, cols, n, st, key, rfl, _⟩ := h
    rfl
  · obtain ⟨p, d, h, b, cols, n, st, key, rfl, c, k⟩ := h
    have hu := hu_of hr
    refine ⟨_, PSs.nox (pss_one (ps_ret (pe_ifExp (pt_cmp (pc_din hu (pv 1) (pe_fld (pv 0) (by rfl)))) (pe_ix (by exact ix_tup) (pe_dget hu (pe_fld (pv 0) (by rfl)) (pv 1) (fun _ _ => rfl)) pe_int (fun _ _ => rfl)) (pe_tup pa_nil)))), ?_⟩
    obtain ⟨dx, t, l, mks, ks, h1, h2, h3, h4, l1, l2, m, ko⟩ := c.at_
    refine ⟨_, rfl, _, rfl, p, CY, dx, _, .ref d, rfl, h1, T.cl, T.n3, rfl, d, _, rfl, .inl ⟨mks, Sum.inl key, .inl h3, rfl, rfl⟩, _, rfl, ?_⟩
    cases e : valV mks (Sum.inl key) with
    | none =>
      have e2 : st key = none := by
        have z := m.val key
        rw [e] at z
        cases q : st key with
        | none => rfl
        | some x => rw [q] at z; cases z
      refine itFb rfl ⟨Nat.zero_le _, fun u nu => ?_⟩
      exact k u _ (Lw.Same.new (Same.refl H) nu) (by rw [e2]; exact upd_same)
    | some v =>
      obtain ⟨g1, g2⟩ := m.2.1 key
      rw [e] at g1
      rcases g1 with ⟨g, _⟩ | ⟨a, r, u, row, fs, g, es, q1, q2, q3⟩
      · have e3 : v = .non := g
        rw [e, e3] at g2
        exact absurd rfl g2
      · have e3 : v = .ref a := g
        subst e3
        refine itTb rfl ⟨_, rfl, p, CY, dx, _, .ref d, rfl, h1, T.cl, T.n3, rfl, _, rfl, d, .ref a, rfl, .inl ⟨mks, Sum.inl key, .inl h3, rfl, e.symm⟩, a, _, 1, .ref u, rfl, rfl, SqT.of q1, rfl, ?_⟩
        exact k u H (Same.refl H) (by rw [es]; exact q3)
def spConC (CY CH : Addr) : Sp := fun vs H Q _ => ∃ (p d h : Addr) (b : Hab) (cols : List Str) (n : Nat) (st : Int → Option (List V × List Int)) (key : Int), vs = [.ref p, .int key] ∧ CopyOk CY CH H p d h b cols n st ∧ Q (.bl (st key).isSome) H
theorem scConC : FnScope ["self", "x"] ["self", "x"] (defScope sConC) := ⟨rfl, rfl, rfl, by decide +kernel, rfl, by decide +kernel, by decide +kernel⟩
theorem ok_conC {CY CH f : Addr} {fd : FuncData} (F : MethD K "__contains__" "Copy.__contains__" sConC f fd) (T : TxtY K CY) : FnOk P w K mg base CX0 1 f fd ["self", "x"] (spConC CY CH) := by
  refine F.ok scConC (fun vs H Q E h => ?_) (fun cdv A outer s H vs Q E hr h => ?_)
  · obtain ⟨p, d, h, b, cols, n, st, key, rfl, _⟩ := h
    rfl
  · obtain ⟨p, d, h, b, cols, n, st, key, rfl, c, k⟩ := h
    have hu := hu_of hr
    refine ⟨_, PSs.nox (pss_one (ps_ret (pe_cmp (pc_din hu (pv 1) (pe_fld (pv 0) (by rfl)))))), ?_⟩
    obtain ⟨dx, t, l, mks, ks, h1, h2, h3, h4, l1, l2, m, ko⟩ := c.at_
    exact ⟨_, rfl, _, rfl, p, CY, dx, _, .ref d, rfl, h1, T.cl, T.n3, rfl, d, _, rfl, .inl ⟨mks, Sum.inl key, .inl h3, rfl, rfl⟩, by rw [m.val key]; exact k⟩
/-- copy[key], there being a row -/
def spGetI (CY CH : Addr) : Sp := fun vs H Q _ => ∃ (p d h : Addr) (b : Hab) (cols : List Str) (n : Nat) (st : Int → Option (List V × List Int)) (key : Int) (row : List V) (fs : List Int), vs = [.ref p, .int key] ∧ CopyOk CY CH H p d h b cols n st ∧ st key = some (row, fs) ∧ row.length = cols.length ∧ ∀ q, H q = none → Q (.ref q) (upd H q (.dK (cellsK cols row)))
theorem scGetI : FnScope ["self", "at"] ["self", "at"] (defScope sGetI) := ⟨rfl, rfl, rfl, by decide +kernel, rfl, by decide +kernel, by decide +kernel⟩
theorem ok_getI {CY CH f : Addr} {fd : FuncData} (F : MethD K "__getitem__" "Copy.__getitem__" sGetI f fd) (T : TxtY K CY) (cR : Cal P w K mg base CX0 "row_of" 1 ["held"] spRowOf) (cC : Cal P w K mg base CX0 "cells_of" 1 ["columns", "row"] spCellsOf) : FnOk P w K mg base CX0 2 f fd ["self", "at"] (spGetI CY CH) := by
  refine F.ok scGetI (fun vs H Q E h => ?_) (fun cdv A outer s H vs Q E hr h => ?_)
  · obtain ⟨p, d, h, b, cols, n, st, key, row, fs, rfl, _⟩ := h
    rfl
  · obtain ⟨p, d, h, b, cols, n, st, key, row, fs, rfl, c, hst, hrl, k⟩ := h
    have hu := hu_of hr
    refine ⟨_, PSs.nox (pss_cons (ps_if (pt_cmp (pc_dnotin hu (pv 1) (pe_fld (pv 0) (by rfl)))) (pss_one Mk.ps_nev) pss_nil)
      (pss_one (ps_ret (pe_cal cC hr (pa_cons (pe_fld (pv 0) (by rfl)) (pa_cons (pe_cal cR hr (pa_cons (pe_dget hu (pe_fld (pv 0) (by rfl)) (pv 1) (fun _ _ => rfl)) pa_nil)) pa_nil)))))), ?_⟩
    obtain ⟨dx, t, l, mks, ks, h1, h2, h3, h4, l1, l2, m, ko⟩ := c.at_
    have hv : (valV mks (Sum.inl key)).isSome = true := by rw [m.val key, hst]; rfl
    refine ⟨_, rfl, _, rfl, p, CY, dx, _, .ref d, rfl, h1, T.cl, T.n3, rfl, d, _, rfl, .inl ⟨mks, Sum.inl key, .inl h3, rfl, rfl⟩, _, rfl, itFb (by rw [hv]; rfl) ?_⟩
    obtain ⟨v, ev⟩ := Option.isSome_iff_exists.mp hv
    obtain ⟨g1, _⟩ := m.2.1 key
    rw [ev] at g1
    refine ⟨_, rfl, p, CY, dx, _, .ref t, rfl, h1, T.cl, T.n1, rfl, _, rfl, p, CY, dx, _, .ref d, rfl, h1, T.cl, T.n3, rfl, _, rfl, d, v, rfl, .inl ⟨mks, Sum.inl key, .inl h3, rfl, ev.symm⟩, v, st key, rfl, g1, fun x hx => ?_⟩
    refine ⟨t, cols, x, _, rfl, h2, hx, fun e => ?_, fun row' e => ?_⟩
    · rw [hst] at e
      cases e
    · rw [hst] at e
      cases e
      exact ⟨hrl, k⟩
end
end Lw

set_option Elab.async false
set_option linter.all false
set_option maxRecDepth 100000
set_option maxHeartbeats 40000000
namespace Lw
open PySem PySem.Spec PyProof.Rows L2
abbrev sApply : Stmt := inClass (top 23) 1
section
variable {P : Program} {w : World} {K : PySem.W.Frag} {mg : Str → Option Value} {base : Heap}
/-! a message applied, nothing refused -/
theorem valV_drop : ∀ (kvs : List (Key × V)) (k j : Key), valV (dropK kvs k) j = if j = k then none else valV kvs j
  | [], k, j => by
    rw [show dropK ([] : List (Key × V)) k = [] from rfl, valV_nil]
    split <;> rfl
  | q :: r, k, j => by
    by_cases e : q.1 = k
    · rw [dropK_pos e, valV_drop r k j]
      by_cases h : j = k
      · rw [if_pos h, if_pos h]
      · rw [if_neg h, if_neg h, valV_neg fun e2 => h (e2.symm.trans e)]
    · rw [dropK_neg e]
      by_cases h : q.1 = j
      · rw [valV_pos h, valV_pos h, if_neg fun e2 => e (h.trans e2)]
      · rw [valV_neg h, valV_neg h, valV_drop r k j]
def setSt (st : Int → Option (List V × List Int)) (key : Int) (o : Option (List V × List Int)) : Int → Option (List V × List Int) := fun k => if k = key then o else st k
theorem MapAt.put {G : Hp} {mks : List (Key × V)} {st : Int → Option (List V × List Int)} {key : Int} {v : V} {o : Option (List V × List Int)} (m : MapAt G mks st) (hv : HeldV G v o) (hn : v ≠ .non) : MapAt G (putK mks (Sum.inl key) v) (setSt st key o) := by
  refine ⟨?_, fun k => ?_, fun q hq => ?_⟩
  · cases e : valV mks (Sum.inl key) with
    | none => exact nd_putK v m.1 e
    | some y =>
      unfold putK
      rw [valV_any, e]
      show (List.map (fun kv : Key × V => kv.1) (List.map (fun kv : Key × V => if kv.1 = Sum.inl key then (kv.1, v) else kv) mks)).Nodup
      rw [List.map_map]
      have : (fun kv : Key × V => kv.1) ∘ (fun kv : Key × V => if kv.1 = Sum.inl key then (kv.1, v) else kv) = fun kv => kv.1 := by
        funext kv
        show (if kv.1 = Sum.inl key then (kv.1, v) else kv).1 = kv.1
        split <;> rfl
      rw [this]
      exact m.1
  · rw [valV_put]
    unfold setSt
    by_cases h : k = key
    · rw [if_pos h, if_pos (by rw [h])]
      exact ⟨hv, fun e => hn (Option.some.inj e)⟩
    · rw [if_neg h, if_neg fun e => h (Sum.inl.inj e)]
      exact m.2.1 k
  · unfold putK at hq
    split at hq
    · obtain ⟨q0, h1, h2⟩ := List.mem_map.mp hq
      by_cases e : q0.1 = Sum.inl key
      · rw [if_pos e] at h2
        exact ⟨key, by rw [← h2]; exact e⟩
      · rw [if_neg e] at h2
        rw [← h2]
        exact m.2.2 q0 h1
    · rcases List.mem_append.mp hq with h | h
      · exact m.2.2 q h
      · rw [List.mem_singleton.mp h]
        exact ⟨key, rfl⟩
theorem MapAt.drop {G : Hp} {mks : List (Key × V)} {st : Int → Option (List V × List Int)} {key : Int} (m : MapAt G mks st) : MapAt G (dropK mks (Sum.inl key)) (setSt st key none) := by
  refine ⟨nd_dropK m.1, fun k => ?_, fun q hq => m.2.2 q (List.mem_filter.mp hq).1⟩
  rw [valV_drop]
  unfold setSt
  by_cases h : k = key
  · rw [if_pos h, if_pos (by rw [h])]
    exact ⟨.inl ⟨rfl, rfl⟩, fun e => by cases e⟩
  · rw [if_neg h, if_neg fun e => h (Sum.inl.inj e)]
    exact m.2.1 k
theorem KsOk.drop {ks : List Int} {st : Int → Option (List V × List Int)} {key : Int} (h : KsOk ks st) : KsOk (leftOf key ks) (setSt st key none) := by
  refine ⟨h.1.filter _, h.2.1.filter _, fun k => ?_⟩
  unfold leftOf setSt
  rw [List.mem_filter, h.2.2 k]
  by_cases e : k = key
  · simp [e]
  · simp [e]
theorem KsOk.keep {ks : List Int} {st : Int → Option (List V × List Int)} {key : Int} {o : Option (List V × List Int)} (h : KsOk ks st) (h1 : (st key).isSome = true) (h2 : o.isSome = true) : KsOk ks (setSt st key o) := by
  refine ⟨h.1, h.2.1, fun k => ?_⟩
  unfold setSt
  rw [h.2.2 k]
  by_cases e : k = key
  · subst e
    rw [if_pos rfl, h1, h2]
  · rw [if_neg e]
theorem KsOk.more {ks ks' : List Int} {st : Int → Option (List V × List Int)} {key : Int} {o : Option (List V × List Int)} (h : KsOk ks st) (h1 : (st key).isSome = false) (h2 : o.isSome = true) (pm : ks'.Perm (ks ++ [key])) (so : ks'.Pairwise (· ≤ ·)) : KsOk ks' (setSt st key o) := by
  have nk : key ∉ ks := fun m => by
    rw [(h.2.2 key).mp m] at h1
    cases h1
  refine ⟨so, pm.symm.nodup (List.nodup_append.mpr ⟨h.2.1, List.nodup_cons.mpr ⟨List.not_mem_nil, List.nodup_nil⟩, fun a ha b hb e => ?_⟩), fun k => ?_⟩
  · rw [List.mem_singleton.mp hb] at e
    subst e
    exact nk ha
  · rw [pm.mem_iff, List.mem_append, List.mem_singleton, h.2.2 k]
    unfold setSt
    by_cases e : k = key
    · rw [if_pos e, h2]
      exact ⟨fun _ => rfl, fun _ => .inr e⟩
    · rw [if_neg e]
      exact ⟨fun x => x.resolve_right e, .inl⟩
theorem sq_joinC {c : TT} {t1 u : TS} {D : Ends} {σ : L2.St} {H : Hp} (P : Bool → Hp → Prop) (P2 : Hp → Prop) (h : ∀ Q : Bool → Hp → Prop, (∀ b H', P b H' → Q b H') → c σ H Q)
    (kt : ∀ H', P true H' → ∀ D' : Ends, (∀ G, P2 G → D'.nx σ G) → t1 D' σ H') (kf : ∀ H', P false H' → P2 H') (k : ∀ G, P2 G → u D σ G) : tSeq (tIfS c t1 tNext) u D σ H :=
  sq_if P h (fun H' p => kt H' p _ k) (fun H' p => k H' (kf H' p))
/-- the list of keys of a copy -/
def KeysOf (G : Hp) (p D : Addr) : Prop := ∃ C dx fs, G p = some (.ins C dx fs) ∧ fs.lookup ("_keys" : Str) = some (.ref D)
theorem KeysOf.eq {G : Hp} {p D E C dx t h d : Addr} (k : KeysOf G p D) (e : G p = some (.ins C dx [("columns", .ref t), ("habits", .ref h), ("_held", .ref d), ("_keys", .ref E)])) : D = E := by
  obtain ⟨C2, dx2, fs, h1, h2⟩ := k
  rw [e] at h1
  cases h1
  have h3 : List.lookup ("_keys" : Str) [(("columns" : Str), V.ref t), ("habits", .ref h), ("_held", .ref d), ("_keys", .ref E)] = some (.ref E) := rfl
  rw [h3] at h2
  cases h2
  rfl
def spApply (CY CH CP CC CT CR : Addr) : Sp := fun vs H Q E => ∃ (p d h m : Addr) (b : Hab) (cols : List Str) (n : Nat) (st : Int → Option (List V × List Int)) (N : Hp) (z : Str) (key f : Int) (kvs : List (Key × V)), vs = [.ref p, .ref m, .int f] ∧ CopyOk CY CH H p d h b cols n st ∧ n ≤ 1000 ∧ cols.Nodup ∧ cols.length ≤ 60 ∧ Msg CP CC CT N H m z key kvs ∧
  (∀ row fs, st key = some (row, fs) → row.length = cols.length ∧ fs.length ≤ 50 ∧ ∀ v ∈ row, IntN v) ∧ WayOk2 (wayOf b (st key).isSome z) (st key) ∧ (wayOf b (st key).isSome z = "stop" → ∀ d r G, H d = none → Same H G → G d = some (.xd (refF m r)) → RowE G r (toldO cols (st key)) → E (.ref CR) (some d) G) ∧ (wayOf b (st key).isSome z ≠ "stop" → ∀ G o', Keep2 p d H G → AppR (wayOf b (st key).isSome z) cols kvs f (st key) o' → CopyOk CY CH G p d h b cols (n + 1) (setSt st key o') → (∀ D, KeysOf G p D → KeysOf H p D ∨ H D = none) → Q .non G)
abbrev nApply : List Str := ["self", "message", "feed", "key", "held", "other"]
abbrev AppD (K : PySem.W.Frag) (f : Addr) (fd : FuncData) : Prop := FunD K "apply" "Copy.apply" (defArgs sApply) (defBody sApply) (defScope sApply) [] [("feed", .int 0)] f fd
theorem scApply : FnScope nApply ["self", "message", "feed"] (defScope sApply) := ⟨rfl, rfl, rfl, by decide +kernel, rfl, by decide +kernel, by decide +kernel⟩
theorem ok_apply {CY CH CP CC CT CM CR f : Addr} {fd : FuncData} (F : AppD K f fd) (T : TxtY K CY) (M : MsF P w K mg base CP CC CT CM) (hs : mg "sorted" = none) (cA : Cal P w K mg base (L2N.CX P w) "applied" 5 ["columns", "habits", "held", "message", "feed"] (spApplied CH CP CC CT CR)) : FnOk P w K mg base (L2N.CX P w) 6 f fd ["self", "message", "feed"] (spApply CY CH CP CC CT CR) := by
  refine F.ok scApply (fun vs H Q E h => ?_) (fun cdv A outer s H vs Q E hr h => ?_)
  · obtain ⟨p, d, h, m, b, cols, n, st, N, z, key, fe, kvs, rfl, _⟩ := h
    rfl
  · obtain ⟨p, d, h, m, b, cols, n, st, N, z, key, fe, kvs, rfl, c, ln, ncl, lc, hm, hrow, hw, kE, k⟩ := h
    have nd := scApply.nd
    obtain ⟨fA, fdA, gA, kA, FA, bA⟩ := cA.ex
    have hu := hu_of hr
    have h9 : (1001 : Nat) < sizeLine := by decide
    obtain ⟨hz, dm, fs, hi, hl⟩ := hm.at
    have Z := M.one z hz
    refine ⟨_, pss_cons (ps_set (i := 3) nd rfl (Or.inr rfl) (pe_fld (pv 1) (by rfl)))
      (pss_cons (ps_set (i := 4) nd rfl (Or.inl rfl) (pe_call FA hr rfl gA kA bA .nil (L2N.passes_call (E := E) (L2N.takes_of rfl rfl rfl rfl) fun _ _ _ _ z => z) (pa_cons (pe_fld (pv 0) (by rfl)) (pa_cons (pe_fld (pv 0) (by rfl)) (pa_cons (pe_dget1 hu (pe_fld (pv 0) (by rfl)) (pv 3) ⟨rfl, rfl, rfl, rfl⟩) (pa_cons (pv 1) (pa_cons (pv 2) pa_nil)))))))
      (pss_cons (ps_if (pt_cmpR op_isN (pv 4) pe_non (by rfl))
        (pss_cons (ps_fld (pv 0) (pe_lc (own := [("other", 5)]) (g := gName 5) rfl nd (pi_list (pe_fld (pv 0) (by rfl))) (blkOk_by (N := nApply) (sc := defScope sApply) (by decide +kernel)) (fun _ _ _ _ _ => pg_name (i := 5) nd rfl (Or.inl rfl)) (fun _ _ _ _ _ => pts_one (pt_cmpR op_ne (pv 5) (pv 3) (nomark _))) (fun _ _ _ _ _ => pv 5)) rfl)
        (pss_cons (ps_expr (pe_dpop2 (pe_fld (pv 0) (by rfl)) (pv 3) pe_non ⟨rfl, rfl, rfl, rfl⟩)) (pss_one ps_retN))) pss_nil)
      (pss_cons (ps_if (pt_cmp (pc_dnotin hu (pv 3) (pe_fld (pv 0) (by rfl)))) (pss_one (ps_fld (pv 0) (pe_callB cr_sortedI (by rfl) hs (by decide +kernel) (pa_cons (pe_lst (StX.pa_star (pe_fld (pv 0) (by rfl)) (pa_cons (pv 3) pa_nil))) pa_nil)) rfl)) pss_nil)
      (pss_one (ps_dput hu (pe_fld (pv 0) (by rfl)) (pv 3) (pv 4) rfl))))), ?_⟩
    obtain ⟨dx, t, l, mks, ks, g1, g2, g3, g4, l1, l2, mp, ko⟩ := c.at_
    refine sq_set (fun x G => x = .int key ∧ H = G) (fun Q q => ?_) ?_
    · exact ⟨_, rfl, m, _, dm, _, .int key, rfl, hi, Z.T.cl, Z.T.nK, rfl, q _ _ ⟨rfl, rfl⟩⟩
    rintro _ _ ⟨rfl, rfl⟩
    refine sq_set (fun x G => wayOf b (st key).isSome z ≠ "stop" ∧ ∃ o', Same H G ∧ AppR (wayOf b (st key).isSome z) cols kvs fe (st key) o' ∧ HeldV G x o') (fun Q q => ?_) ?_
    · refine ⟨_, rfl, p, CY, dx, _, .ref t, rfl, g1, T.cl, T.n1, rfl, _, rfl, p, CY, dx, _, .ref h, rfl, g1, T.cl, T.n2, rfl, ?_⟩
      refine ⟨_, rfl, p, CY, dx, _, .ref d, rfl, g1, T.cl, T.n3, rfl, d, rfl, .inl ⟨mks, .inl g3⟩, _, rfl, _, .inl ⟨mks, Sum.inl key, .inl g3, rfl, rfl⟩, _, rfl, _, rfl, ?_⟩
      exact ⟨t, h, m, b, cols, _, st key, N, z, key, fe, kvs, rfl, g2, ncl, lc, c.hab, (mp.2.1 key).1, hm, hrow, hw, fun e d r G nd s g hr => kE e d r G nd s g hr, fun ne x o' G s a hx => q _ _ ⟨ne, o', s, a, hx⟩⟩
    rintro x G ⟨ne0, o', sG, ha, hx⟩
    have k := k ne0
    have c2 := c.same sG
    have e1 := sG _ _ g1
    have e2 := sG _ _ g2
    have e3 := sG _ _ g3
    have e4 := sG _ _ g4
    obtain ⟨dh, e5⟩ := c2.hab
    have pd : p ≠ d := fun e => by
      subst e
      rw [e1] at e3
      cases e3
    have pl : l ≠ p := fun e => by
      subst e
      rw [e1] at e4
      cases e4
    have pt : t ≠ p := fun e => by
      subst e
      rw [e1] at e2
      cases e2
    have dt : t ≠ d := fun e => by
      subst e
      rw [e2] at e3
      cases e3
    have dl : l ≠ d := fun e => by
      subst e
      rw [e4] at e3
      cases e3
    have hp : h ≠ d := fun e => by
      subst e
      rw [e5] at e3
      cases e3
    have hnp : h ≠ p := fun e => by
      subst e
      rw [e1] at e5
      injection e5 with e5
      injection e5 with _ _ e6
      injection e6 with e7 _
      injection e7 with e8 _
      exact absurd e8 (by decide)
    have fin : ∀ (G3 : Hp) (D : Addr) (mks2 : List (Key × V)) (ks2 : List Int), (D = l ∨ H D = none) → Keep2 p d G G3 → G3 p = some (.ins CY dx [("columns", .ref t), ("habits", .ref h), ("_held", .ref d), ("_keys", .ref D)]) → G3 d = some (.dK mks2) → G3 D = some (.lst (ks2.map V.int)) → mks2.length ≤ n + 1 → ks2.length ≤ n + 1 → MapAt G mks2 (setSt st key o') → KsOk ks2 (setSt st key o') → Q .non G3 :=
      fun G3 D mks2 ks2 nD kp hp3 hd3 hD m1 m2 mp2 ko2 => k G3 o' (fun a o n1 n2 e => kp a o n1 n2 (sG a o e)) ha ⟨⟨dx, t, D, mks2, ks2, hp3, kp t _ pt dt e2, hd3, hD, m1, m2, mp2.move (fun a xs e => kp a _ (fun z => by subst z; rw [e1] at e; cases e) (fun z => by subst z; rw [e3] at e; cases e) e), ko2⟩, dh, kp h _ hnp hp e5⟩
        (fun D' kD => by
          have e := kD.eq hp3
          subst e
          rcases nD with rfl | nD
          · exact .inl ⟨CY, dx, _, g1, rfl⟩
          · exact .inr nD)
    have mpG : MapAt G mks st := mp.move fun a xs e => sG _ _ e
    refine sq_if1 (fun bb G2 => G = G2 ∧ bb = o'.isNone) (fun Q q => ⟨_, rfl, rfl, _, rfl, q _ _ ⟨rfl, hx.none_iff⟩⟩) ?_ ?_
    · rintro _ ⟨rfl, en⟩
      have eo : o' = none := by
        cases o' with
        | none => rfl
        | some y => cases en
      subst eo
      refine ⟨_, rfl, p, CY, dx, _, .ref l, rfl, e1, T.cl, T.n4, rfl, l, rfl, ⟨_, SqL.of e4⟩, fun D nD => ?_⟩
      refine lc_list (xs := ks.map V.int) (fun i G2 => Same G G2 ∧ G2 D = some (.lst ((leftOf key (ks.take i)).map V.int))) ⟨Lw.Same.new (Same.refl G) nD, upd_same⟩ (fun i G2 _ h => SqL.of (h.1 _ _ e4)) ?_ ?_
      · rintro i y G2 q1 ⟨s2, gD⟩
        rw [List.getElem?_map] at q1
        obtain ⟨v, hv, rfl⟩ := Option.map_eq_some_iff.mp q1
        have et : leftOf key (ks.take (i + 1)) = leftOf key (ks.take i) ++ leftOf key [v] := by
          unfold leftOf
          rw [take_one hv, List.filter_append]
        refine ⟨rfl, _, rfl, _, rfl, rfl, _, rfl, ?_⟩
        by_cases hvk : v = key
        · refine itFb (by rw [decide_eq_true (by rw [hvk])]; rfl) ?_
          refine ⟨s2, ?_⟩
          rw [et, gD]
          subst hvk
          simp [leftOf]
        · refine itTb (by rw [decide_eq_false fun e => hvk (V.int.inj e)]; rfl) ?_
          refine ⟨_, rfl, _, gD, ?_, same_at nD s2, ?_⟩
          · rw [List.length_map]
            refine Nat.lt_of_le_of_lt (Nat.le_trans (List.length_filter_le _ _) (by rw [List.length_take]; exact Nat.le_trans (Nat.min_le_right _ _) (Nat.le_trans l2 (Nat.le_trans ln (by decide : (1000 : Nat) ≤ 1001))))) h9
          · rw [upd_same, et, List.map_append]
            simp [leftOf, hvk]
      · rintro G2 ⟨s2, gD⟩
        rw [List.length_map, List.take_length] at gD
        have Dp : D ≠ p := fun e => by
          subst e
          rw [s2 _ _ e1] at gD
          cases gD
        have Dd : D ≠ d := fun e => by
          subst e
          rw [s2 _ _ e3] at gD
          cases gD
        have hd2 : (upd G2 p (.ins CY dx [("columns", .ref t), ("habits", .ref h), ("_held", .ref d), ("_keys", .ref D)])) d = some (.dK mks) := by
          rw [upd_ne pd.symm]
          exact s2 _ _ e3
        refine ⟨_, rfl, p, CY, dx, _, rfl, s2 _ _ e1, T.cl, T.n4, (by show 4 < 1000; decide), ?_⟩
        have ml : (dropK mks (Sum.inl key)).length ≤ n + 1 := Nat.le_trans (dropK_le _ _) (by omega)
        have kl : (leftOf key ks).length ≤ n + 1 := Nat.le_trans (List.length_filter_le _ _) (by omega)
        refine ⟨_, rfl, p, CY, dx, _, .ref d, rfl, upd_same, T.cl, T.n3, rfl, d, rfl, .inl ⟨mks, .inl hd2⟩, _, rfl, mks, Sum.inl key, hd2, rfl, fun v hv => ?_, fun hn => ?_⟩
        · refine fin _ D _ _ (.inr (none_of_same sG nD)) (fun a o n1 n2 e => ?_) ?_ upd_same ?_ ml kl mpG.drop ko.drop
          · rw [upd_ne n2, upd_ne n1]
            exact s2 _ _ e
          · rw [upd_ne pd]
            exact upd_same
          · rw [upd_ne Dd, upd_ne Dp]
            exact gD
        · have ed : dropK mks (Sum.inl key) = mks := dropK_no (valV_not hn)
          rw [← ed] at hd2
          refine fin _ D _ _ (.inr (none_of_same sG nD)) (fun a o n1 n2 e => ?_) upd_same hd2 ?_ ml kl mpG.drop ko.drop
          · rw [upd_ne n1]
            exact s2 _ _ e
          · rw [upd_ne Dp]
            exact gD
    · rintro _ ⟨rfl, en⟩
      have os : o'.isSome = true := by
        cases o' with
        | none => cases en
        | some y => rfl
      have xn : x ≠ .non := fun e => by
        rcases hx with ⟨_, e'⟩ | ⟨a, _, _, _, _, e', _⟩
        · rw [e'] at os
          cases os
        · rw [e] at e'
          cases e'
      have vsome := mpG.val key
      refine sq_joinC (fun bb G2 => G = G2 ∧ bb = !(st key).isSome) (fun G2 => ∃ D ks2, (D = l ∨ H D = none) ∧ Keep p G G2 ∧ G2 p = some (.ins CY dx [("columns", .ref t), ("habits", .ref h), ("_held", .ref d), ("_keys", .ref D)]) ∧ G2 D = some (.lst (ks2.map V.int)) ∧ ks2.length ≤ n + 1 ∧ KsOk ks2 (setSt st key o')) (fun Q q => ?_) ?_ ?_ ?_
      · exact ⟨_, rfl, _, rfl, p, CY, dx, _, .ref d, rfl, e1, T.cl, T.n3, rfl, d, _, rfl, .inl ⟨mks, Sum.inl key, .inl e3, rfl, rfl⟩, _, rfl, q _ _ ⟨rfl, by rw [vsome]⟩⟩
      · rintro _ ⟨rfl, eb⟩ D' q
        have sn : (st key).isSome = false := by
          cases hh : (st key).isSome with
          | false => rfl
          | true => rw [hh] at eb; cases eb
        have le : ((ks.map V.int) ++ [V.int key]).length ≤ 1001 := by
          rw [List.length_append, List.length_map, List.length_singleton]
          omega
        refine ⟨_, rfl, p, CY, dx, _, .ref l, rfl, e1, T.cl, T.n4, rfl, l, _, rfl, .inr (SqL.of e4), _, rfl, Nat.le_trans le (by decide), fun u nu => ?_⟩
        have s2 := Lw.Same.new (o := .lst ((ks.map V.int) ++ [V.int key])) (Same.refl G) nu
        refine ⟨u, ks ++ [key], rfl, ?_, fun ks' r pm so nr => ?_⟩
        · rw [List.map_append]
          exact SqL.of upd_same
        have s3 := s2.trans (Lw.Same.new (o := .lst (ks'.map V.int)) (Same.refl _) nr)
        have rp : r ≠ p := (ne_of_none (s2 _ _ e1) nr).symm
        refine ⟨_, rfl, p, CY, dx, _, rfl, s3 _ _ e1, T.cl, T.n4, (by show 4 < 1000; decide), ?_⟩
        refine q _ ⟨r, ks', .inr (none_of_same (sG.trans s2) nr), fun a o n1 e => ?_, upd_same, ?_, ?_, ko.more sn os pm so⟩
        · rw [upd_ne n1]
          exact s3 _ _ e
        · rw [upd_ne rp]
          exact upd_same
        · rw [pm.length_eq, List.length_append, List.length_singleton]
          omega
      · rintro _ ⟨rfl, eb⟩
        have sn : (st key).isSome = true := by
          cases hh : (st key).isSome with
          | true => rfl
          | false => rw [hh] at eb; cases eb
        exact ⟨l, ks, .inl rfl, Keep.refl _, e1, e4, by omega, ko.keep sn os⟩
      · rintro G2 ⟨D, ks2, nD, kp, q1, q2, q3, q4⟩
        have hd2 := kp _ _ pd.symm e3
        have Dd : D ≠ d := fun e => by
          subst e
          rw [q2] at hd2
          cases hd2
        refine ⟨_, rfl, _, rfl, p, CY, dx, _, .ref d, rfl, q1, T.cl, T.n3, rfl, _, rfl, d, _, rfl, .inl ⟨mks, Sum.inl key, hd2, rfl, ?_, rfl⟩, ?_⟩
        · exact Nat.lt_of_le_of_lt (Nat.le_trans l1 (Nat.le_trans ln (by decide : (1000 : Nat) ≤ 1001))) h9
        refine fin _ D _ ks2 nD (fun a o n1 n2 e => ?_) ?_ upd_same ?_ (Nat.le_trans (length_putK _ _ _) (by omega)) q3 (mpG.put hx xn) q4
        · rw [upd_ne n2]
          exact kp _ _ n1 e
        · rw [upd_ne pd]
          exact q1
        · rw [upd_ne Dd]
          exact q2
theorem CopyOk.keepL {CY CH : Addr} {H G : Hp} {p d h q : Addr} {xs : List V} {b : Hab} {cols : List Str} {n : Nat} {st : Int → Option (List V × List Int)} (c : CopyOk CY CH H p d h b cols n st) (hq : H q = some (.lst xs)) (nk : ∀ D, KeysOf H p D → D ≠ q) (k : Keep q H G) : CopyOk CY CH G p d h b cols n st := by
  have kk : ∀ {a : Addr} {o : HO}, H a = some o → (∀ ys, o ≠ .lst ys) → G a = some o := fun {a o} e n => k a o (fun z => by subst z; rw [hq] at e; exact n _ (Option.some.inj e).symm) e
  obtain ⟨dx, t, l, mks, ks, h1, h2, h3, h4, l1, l2, mp, ko⟩ := c.at_
  obtain ⟨dh, h5⟩ := c.hab
  exact ⟨⟨dx, t, l, mks, ks, kk h1 (fun _ e => by cases e), kk h2 (fun _ e => by cases e), kk h3 (fun _ e => by cases e), k _ _ (nk l ⟨CY, dx, _, h1, rfl⟩) h4, l1, l2, mp.move fun b xs e => kk e (fun _ e => by cases e), ko⟩, dh, kk h5 (fun _ e => by cases e)⟩
end
end Lw

set_option Elab.async false
set_option linter.all false
set_option maxRecDepth 100000
set_option maxHeartbeats 1000000
namespace Kd
open PySem PySem.Spec PyProof.Rows L2
/-! for x in D, D a dict of the module's own top with texts as keys -/
structure KyD (K : PySem.W.Frag) (w : World) (d : Addr) (zs : List Str) : Prop where
  ex : ∃ es n, KDict K w d es n ∧ es.size = zs.length ∧ ∀ (i : Nat) (e : DictEntry), es[i]? = some e → ∃ z t, zs[i]? = some z ∧ e.key = .str z t
def Itc (zs : List Str) : It := ⟨fun i _ => i < zs.length, fun i G x G2 => G2 = G ∧ ∃ z, zs[i]? = some z ∧ x = .str z, fun i _ => zs.length ≤ i⟩
def iKd (d : Addr) (zs : List Str) (td : TE) : TI := fun σ G R => td σ G fun x G1 => x = .ref d ∧ R (Itc zs) G1
section
variable {PR : Program} {wo : World} {KF : PySem.W.Frag} {tt : Expr} {dd : Addr} {zs : List Str} {es : Array DictEntry} {n : Nat}
theorem turn_kd (ir : Addr) (D : KDict KF wo dd es n) (hz : es.size = zs.length) (hk : ∀ (i : Nat) (e : DictEntry), es[i]? = some e → ∃ z t, zs[i]? = some z ∧ e.key = .str z t) :
    Turn PR wo KF tt (Itc zs) [ir] ir (fun i hp => hp.IsKeyIter ir dd i zs.length n) where
  mem := List.mem_singleton.mpr rfl
  obj := fun i hp q b mb => by
    rw [List.mem_singleton.mp mb]
    obtain ⟨ob, e1, e2, e3⟩ := q
    exact ⟨ob, e1, fun v y => by rw [e3] at y; cases y⟩
  keep := fun i h1 h2 q kp => q.at fun ob e1 => kp ir (List.mem_singleton.mpr rfl) ob e1
  item := by
    intro X e1 e2 e3 cm i ps s σ G EX I fo st go
    subst e1 e2 e3
    have gi : i < es.size := by rw [hz]; exact go
    obtain ⟨a0, a1, a2, a3, a4, a5⟩ := fo ir (List.mem_singleton.mpr rfl)
    have he : es[i]? = some es[i] := Array.getElem?_eq_getElem gi
    obtain ⟨z, t, q1, q2⟩ := hk i _ he
    refine next_key_item st (I.kIn _ _ D.at_) rfl hz he fun h' st' sb => ?_
    have J : Inv X ps σ G { s with heap := h' } := I.turned (t' := s.toks) (fun b ob mb e => (sb.2 b mb).trans e) a0 a1 a3 a4 a5
    obtain ⟨ob, b1, b2, b3⟩ := id st'
    refine ⟨es[i].key, rfl, ?_⟩
    exact go_of (s := { s with heap := h' }) b1 b2 b3 (by decide) ⟨.str z, G, J, ⟨t, q2⟩, ⟨rfl, z, q1, rfl⟩, st', fun b mb => (fo b mb).1⟩
  done := by
    intro X e1 e2 e3 cm i ps s σ G EX I fo st go
    subst e1 e2 e3
    obtain ⟨a0, a1, a2, a3, a4, a5⟩ := fo ir (List.mem_singleton.mpr rfl)
    exact next_key_end (I.ok.hd cm) st (I.kIn _ _ D.at_) rfl hz go fun h' eb => ⟨rfl, I.turned (t' := s.toks) (fun b ob mb e => eb b ob mb e) a0 a1 a3 a4 a5⟩
  self := fun A i s Q E st go => wpAny_pyIter_keyiter st go
end
theorem pi_kd {X : Cx} {tg e : Expr} {td : TE} {d : Addr} {zs : List Str} (D : KyD X.K X.w d zs) (he : PE X e td) : PI X tg e (iKd d zs td) := by
  obtain ⟨es, n, KD, hz, hk⟩ := D.ex
  refine ⟨fun ps s σ G R I h => ?_⟩
  refine thn (he.run ps s σ G _ I h) fun u s1 ⟨x, G1, I1, rx, ex, q⟩ => ?_
  subst ex
  obtain rfl : u = Value.ref d := rx
  refine iter_keys KD.low (I1.kIn _ _ KD.at_) ⟨rfl, rfl, rfl⟩ rfl ?_
  exact pi_one (tk := s1.toks) I1 _ (turn_kd _ KD hz hk) ⟨_, Heap.get?_push_size _ rfl, rfl, by rw [hz] <;> rfl⟩ q
theorem walk_kd {zs : List Str} : Walk (Itc zs) zs.length (fun _ => True) (fun i G x G2 => G2 = G ∧ ∃ z, zs[i]? = some z ∧ x = .str z) :=
  ⟨fun _ _ h _ => h, fun _ _ => Nat.le_refl _, fun _ _ _ _ _ _ y => y⟩
end Kd

set_option Elab.async false
set_option linter.all false
set_option maxRecDepth 100000
set_option maxHeartbeats 40000000
namespace Lw
open PySem PySem.Spec PyProof.Rows L2
abbrev sHabI : Stmt := inClass (top 15) 0
section
variable {P : Program} {w : World} {K : PySem.W.Frag} {mg : Str → Option Value} {base : Heap}
/-! habits made -/
def habVals : List (Str × List Str) := [("present", ["stop", "keep", "replace", "merge"]), ("lacking", ["stop", "skip", "make"]), ("gone", ["stop", "skip"]), ("shared", ["one", "all"])]
abbrev habNames : List Str := ["present", "lacking", "gone", "shared"]
structure HabV (K : PySem.W.Frag) (w : World) (mg : Str → Option Value) (dV : Addr) : Prop where
  gV : mg "VALUES" = some (.ref dV)
  ky : Kd.KyD K w dV habNames
  at_ : ∀ q ∈ habVals, ∃ a, KDct K w dV q.1 (.ref a) ∧ ∀ H, SqT K H a (q.2.map V.str)
def HabIs (b : Hab) : Prop := b.pr ∈ (["stop", "keep", "replace", "merge"] : List Str) ∧ b.la ∈ (["stop", "skip", "make"] : List Str) ∧ b.go ∈ (["stop", "skip"] : List Str) ∧ b.sh ∈ (["one", "all"] : List Str)
def spHabI (CH : Addr) : Sp := fun vs H Q _ => ∃ (p dx : Addr) (b : Hab), vs = [.ref p, .str b.pr, .str b.la, .str b.go, .str b.sh] ∧ H p = some (.ins CH dx []) ∧ HabIs b ∧ ∀ G, Keep p H G → HabAt CH G p b → Q .non G
abbrev nHabI : List Str := ["self", "present", "lacking", "gone", "shared", "told", "habit"]
abbrev HabD (K : PySem.W.Frag) (f : Addr) (fd : FuncData) : Prop := FunD K "__init__" "Habits.__init__" (defArgs sHabI) (defBody sHabI) (defScope sHabI) [] [("present", .str "stop"), ("lacking", .str "stop"), ("gone", .str "stop"), ("shared", .str "one")] f fd
theorem scHabI : FnScope nHabI ["self", "present", "lacking", "gone", "shared"] (defScope sHabI) := ⟨rfl, rfl, rfl, by decide +kernel, rfl, by decide +kernel, by decide +kernel⟩
def toldK (b : Hab) : List (Key × V) := [(Sum.inr "present", .str b.pr), (Sum.inr "lacking", .str b.la), (Sum.inr "gone", .str b.go), (Sum.inr "shared", .str b.sh)]
theorem told_at (b : Hab) : valV (mergeK [] (toldK b)) (Sum.inr "present") = some (.str b.pr) ∧ valV (mergeK [] (toldK b)) (Sum.inr "lacking") = some (.str b.la) ∧ valV (mergeK [] (toldK b)) (Sum.inr "gone") = some (.str b.go) ∧ valV (mergeK [] (toldK b)) (Sum.inr "shared") = some (.str b.sh) := ⟨rfl, rfl, rfl, rfl⟩
theorem ok_habI {CH dV f : Addr} {fd : FuncData} {CP CC : Addr} (F : HabD K f fd) (T : TxtH K mg CH CP CC) (V4 : HabV K w mg dV) : FnOk P w K mg base CX0 1 f fd ["self", "present", "lacking", "gone", "shared"] (spHabI CH) := by
  refine F.ok scHabI (fun vs H Q E h => ?_) (fun cdv A outer s H vs Q E hr h => ?_)
  · obtain ⟨p, dx, b, rfl, _⟩ := h
    rfl
  · obtain ⟨p, dx, b, rfl, hp, ⟨i1, i2, i3, i4⟩, k⟩ := h
    have nd := scHabI.nd
    have hu := hu_of hr
    refine ⟨_, PSs.nox (pss_cons (ps_set (i := 5) nd rfl (Or.inl rfl) (pe_disp (pps_cons pe_str (pv 1) (pps_cons pe_str (pv 2) (pps_cons pe_str (pv 3) (pps_cons pe_str (pv 4) pps_nil)))) (by rfl) (by rfl) (fun z => by cases z) (by decide)))
      (pss_cons (ps_for PassesOwn.never rfl (Kd.pi_kd V4.ky (pe_glob (v := .ref dV) rfl V4.gV rfl)) (pg_name (i := 6) nd rfl (Or.inl rfl))
        (pss_one (ps_if (pt_cmpR op_notIn_seq (pe_dget hu (pv 5) (pv 6) (fun _ _ => rfl)) (pe_ix (by exact ix_kdict) (pe_glob (v := .ref dV) rfl V4.gV rfl) (pv 6) (fun _ _ => rfl)) (by rfl)) (pss_one Mk.ps_nev) pss_nil)))
      (pss_cons (ps_fld (pv 0) (pv 1) rfl) (pss_cons (ps_fld (pv 0) (pv 2) rfl) (pss_cons (ps_fld (pv 0) (pv 3) rfl) (pss_one (ps_fld (pv 0) (pv 4) rfl)))))))  , ?_⟩
    refine sq_set (fun x G => ∃ t, x = .ref t ∧ H t = none ∧ Same H G ∧ G t = some (.dK (mergeK [] (toldK b)))) (fun Q q => ?_) ?_
    · intro t nt
      refine ⟨_, rfl, _, rfl, _, rfl, _, rfl, upd_same, toldK b, rfl, (by show 4 ≤ 15; decide), q _ _ ⟨t, rfl, nt, same_at nt (Lw.Same.new (Same.refl H) nt), upd_same⟩⟩
    rintro _ G ⟨t, rfl, nt, sG, gt⟩
    obtain ⟨t1, t2, t3, t4⟩ := told_at b
    refine ⟨rfl, ?_⟩
    refine for_it (Kd.walk_kd (zs := habNames)) (fun i σ G2 => G = G2 ∧ ∃ v6 : Option V, σ = [some (.ref p), some (.str b.pr), some (.str b.la), some (.str b.go), some (.str b.sh), some (.ref t), v6]) ⟨rfl, _, rfl⟩ (fun _ _ _ _ _ => trivial) ?_ ?_
    · rintro i x σ G2 G3 hi ⟨rfl, v6, rfl⟩ ⟨rfl, z, hz, rfl⟩
      have step : ∀ (y : Str) (ys : List Str), (z, ys) ∈ habVals → valV (mergeK [] (toldK b)) (Sum.inr z) = some (.str y) → y ∈ ys → ∃ a, KDct K w dV z (.ref a) ∧ (∀ H, SqT K H a (ys.map V.str)) ∧ valV (mergeK [] (toldK b)) (Sum.inr z) = some (.str y) ∧ y ∈ ys := fun y ys hm hv hin => by
        obtain ⟨a, h1, h2⟩ := V4.at_ (z, ys) hm
        exact ⟨a, h1, h2, hv, hin⟩
      have all : ∃ y ys a, KDct K w dV z (.ref a) ∧ (∀ H, SqT K H a (List.map V.str ys)) ∧ valV (mergeK [] (toldK b)) (Sum.inr z) = some (.str y) ∧ y ∈ ys := by
        have hi2 : i < 4 := hi
        have h4 : i = 0 ∨ i = 1 ∨ i = 2 ∨ i = 3 := by omega
        rcases h4 with rfl | rfl | rfl | rfl
        · cases (Option.some.inj hz : ("present" : Str) = z)
          exact ⟨_, _, step b.pr _ (by decide) t1 i1⟩
        · cases (Option.some.inj hz : ("lacking" : Str) = z)
          exact ⟨_, _, step b.la _ (by decide) t2 i2⟩
        · cases (Option.some.inj hz : ("gone" : Str) = z)
          exact ⟨_, _, step b.go _ (by decide) t3 i3⟩
        · cases (Option.some.inj hz : ("shared" : Str) = z)
          exact ⟨_, _, step b.sh _ (by decide) t4 i4⟩
      obtain ⟨y, ys, a, h1, h2, h3, h4⟩ := all
      refine ⟨_, rfl, _, rfl, t, .str y, rfl, .inl ⟨_, Sum.inr z, .inl gt, rfl, h3.symm⟩, _, rfl, dV, z, .ref a, rfl, rfl, h1, a, _, rfl, .inr (h2 _), rfl, flat_strs _, _, rfl, ?_⟩
      refine str_notmem (fun hn => (hn h4).elim) (fun _ => ?_)
      exact ⟨rfl, _, rfl⟩
    · rintro σ G2 ⟨rfl, v6, rfl⟩
      have gp := sG _ _ hp
      refine ⟨_, rfl, _, rfl, p, CH, dx, _, rfl, gp, T.cl, T.n1, (by show 0 < 1000; decide), ?_⟩
      refine ⟨_, rfl, _, rfl, p, CH, dx, _, rfl, upd_same, T.cl, T.n2, (by show 1 < 1000; decide), ?_⟩
      refine ⟨_, rfl, _, rfl, p, CH, dx, _, rfl, upd_same, T.cl, T.n3, (by show 2 < 1000; decide), ?_⟩
      refine ⟨_, rfl, _, rfl, p, CH, dx, _, rfl, upd_same, T.cl, T.n4, (by show 3 < 1000; decide), ?_⟩
      refine k _ (fun a o n e => ?_) ⟨dx, upd_same⟩
      rw [upd_ne n, upd_ne n, upd_ne n, upd_ne n]
      exact sG _ _ e
end
end Lw

set_option Elab.async false
set_option linter.all false
set_option maxRecDepth 100000
set_option maxHeartbeats 40000000
namespace Lw
open PySem PySem.Spec PyProof.Rows L2
abbrev sValues : Stmt := top 33
abbrev sNamesH : Stmt := top 34
abbrev sMade : Stmt := top 35
section
variable {P : Program} {w : World} {K : PySem.W.Frag} {mg : Str → Option Value} {base : Heap}
/-! the law's own words for habits -/
def valsOf (h : Str) : List Str := if h = "present" then ["stop", "keep", "replace", "merge"] else if h = "lacking" then ["stop", "skip", "make"] else if h = "gone" then ["stop", "skip"] else ["one", "all"]
def spValues : Sp := fun vs H Q _ => ∃ h : Str, vs = [.str h] ∧ h ∈ habNames ∧ ∀ l G, Same H G → H l = none → G l = some (.lst ((valsOf h).map V.str)) → Q (.ref l) G
theorem scValues : FnScope ["habit"] ["habit"] (defScope sValues) := ⟨rfl, rfl, rfl, by decide +kernel, rfl, by decide +kernel, by decide +kernel⟩
theorem ok_values {f : Addr} {fd : FuncData} (F : FnP K "_law_values" sValues f fd) : FnOk P w K mg base CX0 1 f fd ["habit"] spValues := by
  refine F.ok scValues (fun vs H Q E h => ?_) (fun cdv A outer s0 H vs Q E hr h => ?_)
  · obtain ⟨h, rfl, _⟩ := h
    rfl
  · obtain ⟨h, rfl, hm, k⟩ := h
    have hu := hu_of hr
    refine ⟨_, PSs.nox (pss_cons (ps_if (pt_cmpR op_eq (pv 0) pe_str (nomark _)) (pss_one (ps_ret (pe_lst (pa_cons pe_str (pa_cons pe_str (pa_cons pe_str (pa_cons pe_str pa_nil))))))) pss_nil)
      (pss_one (ps_ret (pe_dget hu (pe_disp (pps_cons pe_str (pe_lst (pa_cons pe_str (pa_cons pe_str (pa_cons pe_str pa_nil)))) (pps_cons pe_str (pe_lst (pa_cons pe_str (pa_cons pe_str pa_nil))) (pps_cons pe_str (pe_lst (pa_cons pe_str (pa_cons pe_str pa_nil))) pps_nil))) (by rfl) (by rfl) (fun z => by cases z) (by decide)) (pv 0) (fun _ _ => rfl))))), ?_⟩
    refine ⟨_, rfl, rfl, _, rfl, str_it (fun e => ?_) (fun ne => ?_)⟩
    · subst e
      exact ⟨(by show 4 ≤ sizeLine; decide), fun l nl => k l _ (Lw.Same.new (Same.refl H) nl) nl upd_same⟩
    · intro t nt
      have st := Lw.Same.new (o := .dK []) (Same.refl H) nt
      have gt0 : (upd H t (.dK [])) t = some (.dK []) := upd_same
      generalize upd H t (.dK []) = H1 at st gt0 ⊢
      refine ⟨(by show 3 ≤ sizeLine; decide), fun l1 n1 => ⟨(by show 2 ≤ sizeLine; decide), fun l2 n2 => ⟨(by show 2 ≤ sizeLine; decide), fun l3 n3 => ?_⟩⟩⟩
      have s1 := Lw.Same.new (o := .lst [.str "stop", .str "skip", .str "make"]) (Same.refl H1) n1
      have g1 : (upd H1 l1 (.lst [.str "stop", .str "skip", .str "make"])) l1 = some (.lst [.str "stop", .str "skip", .str "make"]) := upd_same
      generalize upd H1 l1 (.lst [.str "stop", .str "skip", .str "make"]) = H2 at n2 n3 s1 g1 ⊢
      have s2 := Lw.Same.new (o := .lst [.str "stop", .str "skip"]) (Same.refl H2) n2
      have g2 : (upd H2 l2 (.lst [.str "stop", .str "skip"])) l2 = some (.lst [.str "stop", .str "skip"]) := upd_same
      generalize upd H2 l2 (.lst [.str "stop", .str "skip"]) = H3 at n3 s2 g2 ⊢
      have s3 := Lw.Same.new (o := .lst [.str "one", .str "all"]) (Same.refl H3) n3
      have g3 : (upd H3 l3 (.lst [.str "one", .str "all"])) l3 = some (.lst [.str "one", .str "all"]) := upd_same
      generalize upd H3 l3 (.lst [.str "one", .str "all"]) = H4 at s3 g3 ⊢
      have gt := s3 _ _ (s2 _ _ (s1 _ _ gt0))
      have sH := st.trans (s1.trans (s2.trans s3))
      have nH : ∀ {b : Addr} {G : Hp}, Same H G → G b = none → H b = none := fun s e => none_of_same s e
      have fin : ∀ (l : Addr) (xs : List V), H l = none → l ≠ t → H4 l = some (.lst xs) → xs = (valsOf h).map V.str → ∀ o, Q (.ref l) (upd H4 t o) := fun l xs nl lt gl e o => by
        refine k l _ (fun b z hb => ?_) nl ?_
        · rw [upd_ne (ne_of_none hb nt)]
          exact sH _ _ hb
        · rw [upd_ne lt, ← e]
          exact gl
      have t1 : l1 ≠ t := (ne_of_none gt0 n1).symm
      have t2 : l2 ≠ t := (ne_of_none (s1 _ _ gt0) n2).symm
      have t3 : l3 ≠ t := (ne_of_none (s2 _ _ (s1 _ _ gt0)) n3).symm
      refine ⟨gt, [(Sum.inr "lacking", .ref l1), (Sum.inr "gone", .ref l2), (Sum.inr "shared", .ref l3)], rfl, (by show 3 ≤ 15; decide), ?_⟩
      refine ⟨_, rfl, t, ?_⟩
      rcases List.mem_cons.mp hm with e | hm
      · exact absurd e ne
      rcases List.mem_cons.mp hm with e | hm
      · subst e
        exact ⟨.ref l1, rfl, .inl ⟨_, Sum.inr "lacking", .inl upd_same, rfl, rfl⟩, fin l1 _ (nH st n1) t1 (s3 _ _ (s2 _ _ g1)) rfl _⟩
      rcases List.mem_cons.mp hm with e | hm
      · subst e
        exact ⟨.ref l2, rfl, .inl ⟨_, Sum.inr "gone", .inl upd_same, rfl, rfl⟩, fin l2 _ (nH (st.trans s1) n2) t2 (s3 _ _ g2) rfl _⟩
      rcases List.mem_cons.mp hm with e | hm
      · subst e
        exact ⟨.ref l3, rfl, .inl ⟨_, Sum.inr "shared", .inl upd_same, rfl, rfl⟩, fin l3 _ (nH (st.trans (s1.trans s2)) n3) t3 g3 rfl _⟩
      · cases hm
def spNamesH : Sp := fun vs H Q _ => vs = [] ∧ ∀ l G, Same H G → H l = none → G l = some (.lst (habNames.map V.str)) → Q (.ref l) G
theorem scNamesH : FnScope [] [] (defScope sNamesH) := ⟨rfl, rfl, rfl, by decide +kernel, rfl, by decide +kernel, by decide +kernel⟩
theorem ok_namesH {f : Addr} {fd : FuncData} (F : FnP K "_law_names_of_habits" sNamesH f fd) : FnOk P w K mg base CX0 1 f fd [] spNamesH := by
  refine F.ok scNamesH (fun vs H Q E h => ?_) (fun cdv A outer s0 H vs Q E hr h => ?_)
  · obtain ⟨rfl, _⟩ := h
    rfl
  · obtain ⟨rfl, k⟩ := h
    refine ⟨_, PSs.nox (pss_one (ps_ret (pe_lst (pa_cons pe_str (pa_cons pe_str (pa_cons pe_str (pa_cons pe_str pa_nil))))))), ?_⟩
    exact ⟨(by show 4 ≤ sizeLine; decide), fun l nl => k l _ (Lw.Same.new (Same.refl H) nl) nl upd_same⟩
/-- a dict of the four habits -/
def HabDict (G : Hp) (g : Addr) (b : Hab) : Prop := ∃ kvs, G g = some (.dK kvs) ∧ valV kvs (Sum.inr "present") = some (.str b.pr) ∧ valV kvs (Sum.inr "lacking") = some (.str b.la) ∧ valV kvs (Sum.inr "gone") = some (.str b.go) ∧ valV kvs (Sum.inr "shared") = some (.str b.sh)
theorem HabDict.same {H G : Hp} {g : Addr} {b : Hab} (s : Same H G) (h : HabDict H g b) : HabDict G g b := by
  obtain ⟨kvs, h1, h2⟩ := h
  exact ⟨kvs, s _ _ h1, h2⟩
def spMade (CH : Addr) : Sp := fun vs H Q _ => ∃ (g : Addr) (b : Hab), vs = [.ref g] ∧ HabDict H g b ∧ HabIs b ∧ ∀ h G, Same H G → H h = none → HabAt CH G h b → Q (.ref h) G
theorem scMade : FnScope ["given"] ["given"] (defScope sMade) := ⟨rfl, rfl, rfl, by decide +kernel, rfl, by decide +kernel, by decide +kernel⟩
theorem vals_rev2 : ∀ {vs : List V} {us : List Value}, Vals vs us → Vals vs.reverse us.reverse
  | _, _, .nil => .nil
  | _, _, .cons h r => by
    rw [List.reverse_cons, List.reverse_cons]
    exact Vals.append (vals_rev2 r) (.cons h .nil)
theorem hab_b4 {f : Addr} {fd : FuncData} (F : HabD K f fd) : ∃ mv : List Value, KBn K fd ["self", "present", "lacking", "gone", "shared"] 1 ["present", "lacking", "gone", "shared"] (fun us ws => us ++ (ws ++ mv)) (fun vs zs => vs ++ (zs ++ [])) :=
  F.kbinds0 1 ["present", "lacking", "gone", "shared"] [] (fun us mv ws => us ++ (ws ++ mv)) (fun z => by cases z) (fun q h => by cases h) (fun a b c => a.append (c.append b)) fun D doc pm an cdv ct us mv ws h1 h2 h3 => match us, h1, mv, h2, ws, h3 with
    | [_], _, [], _, [_, _, _, _], _ => rfl
theorem keep_ins2 {H G : Hp} {x dx : Addr} {o u : HO} (hx : H x = none) (hd : H dx = none) (k : Keep x (upd (upd H dx o) x u) G) : Same H G := fun b z h => by
  refine k b z (ne_of_none h hx) ?_
  rw [upd_ne (ne_of_none h hx), upd_ne (ne_of_none h hd)]
  exact h
theorem ok_made {CH f fH : Addr} {fd fdH : FuncData} (F : FnP K "_law_made" sMade f fd) (MH : Mk K CH fH) (DH : HabD K fH fdH) (FH : FnOk P w K mg base CX0 1 fH fdH ["self", "present", "lacking", "gone", "shared"] (spHabI CH)) (gH : mg "Habits" = some (.ref CH)) : FnOk P w K mg base CX0 3 f fd ["given"] (spMade CH) := by
  obtain ⟨mvH, kH⟩ := hab_b4 DH
  refine F.ok scMade (fun vs H Q E h => ?_) (fun cdv A outer s0 H vs Q E hr h => ?_)
  · obtain ⟨g, b, rfl, _⟩ := h
    rfl
  · obtain ⟨g, b, rfl, ⟨kvs, hg, v1, v2, v3, v4⟩, hb, k⟩ := h
    have hu := hu_of hr
    refine ⟨_, PSs.nox (pss_one (ps_ret (pe_makeK0 MH FH hr (by rfl) gH kH pass0 (pk_cons (pe_dget hu (pv 0) pe_str (fun _ _ => rfl)) (pk_cons (pe_dget hu (pv 0) pe_str (fun _ _ => rfl)) (pk_cons (pe_dget hu (pv 0) pe_str (fun _ _ => rfl)) (pk_cons (pe_dget hu (pv 0) pe_str (fun _ _ => rfl)) pk_nil))))))), ?_⟩
    refine ⟨_, rfl, g, _, rfl, .inl ⟨kvs, Sum.inr "present", .inl hg, rfl, v1.symm⟩, _, rfl, g, _, rfl, .inl ⟨kvs, Sum.inr "lacking", .inl hg, rfl, v2.symm⟩, _, rfl, g, _, rfl, .inl ⟨kvs, Sum.inr "gone", .inl hg, rfl, v3.symm⟩, _, rfl, g, _, rfl, .inl ⟨kvs, Sum.inr "shared", .inl hg, rfl, v4.symm⟩, rfl, rfl, fun x dx nx ndx ne => ?_⟩
    exact ⟨x, dx, b, rfl, upd_same, hb, fun Ga ka ha => ⟨rfl, k x Ga (keep_ins2 nx ndx ka) nx ha⟩⟩
end
end Lw

set_option Elab.async false
set_option linter.all false
set_option maxRecDepth 100000
set_option maxHeartbeats 40000000
namespace Lw
open PySem PySem.Spec PyProof.Rows L2
section
variable {P : Program} {w : World} {K : PySem.W.Frag} {mg : Str → Option Value} {base : Heap}
theorem dp_ints {K : PySem.W.Frag} {H : Hp} : ∀ ns : List Int, DpAll K H (ns.map V.int) (ns.map PyData.int)
  | [] => .nil
  | i :: r => .cons (.int i) (dp_ints r)
theorem ints_ok : ∀ ns : List Int, PyData.canLayAll0 (ns.map PyData.int) = true ∧ PyData.depthAll (ns.map PyData.int) = 0
  | [] => ⟨rfl, rfl⟩
  | i :: r => by
    have ih := ints_ok r
    refine ⟨?_, ?_⟩
    · show (PyData.canLay0 (.int i) && PyData.canLayAll0 (r.map PyData.int)) = true
      rw [ih.1]
      rfl
    · show max (PyData.depth (.int i)) (PyData.depthAll (r.map PyData.int)) = 0
      rw [ih.2]
      rfl
theorem shaped_ints (ns : List Int) : SeqAt.shaped (.list (ns.map PyData.int)) = true := by
  obtain ⟨h1, h2⟩ := ints_ok ns
  have e1 : PyData.canLay0 (.list (ns.map PyData.int)) = true := h1
  have e2 : PyData.depth (.list (ns.map PyData.int)) = 1 := by
    show PyData.depthAll (ns.map PyData.int) + 1 = 1
    rw [h2]
  unfold SeqAt.shaped
  rw [e1, e2]
  rfl
theorem eqv_ints (ns : List Int) : PyData.eqv (.list (ns.map PyData.int)) (.list (ns.map PyData.int)) = true := PySem.SeqAt.eqv_refl _ (ints_ok ns).1
theorem dp_intsT {K : PySem.W.Frag} {H : Hp} {a : Addr} {ns : List Int} (h : H a = some (.tup (ns.map V.int))) : Dp K H (.ref a) (.tuple (ns.map PyData.int)) := .tup (SqT.of h) (dp_ints ns)
theorem shaped_intsT (ns : List Int) : SeqAt.shaped (.tuple (ns.map PyData.int)) = true := by
  obtain ⟨h1, h2⟩ := ints_ok ns
  have e1 : PyData.canLay0 (.tuple (ns.map PyData.int)) = true := h1
  have e2 : PyData.depth (.tuple (ns.map PyData.int)) = 1 := by
    show PyData.depthAll (ns.map PyData.int) + 1 = 1
    rw [h2]
  unfold SeqAt.shaped
  rw [e1, e2]
  rfl
theorem eqv_intsT (ns : List Int) : PyData.eqv (.tuple (ns.map PyData.int)) (.tuple (ns.map PyData.int)) = true := PySem.SeqAt.eqv_refl _ (ints_ok ns).1
theorem eqv_intsT0 (ns : List Int) : PyData.eqv (.tuple (ns.map PyData.int)) (.tuple []) = ns.isEmpty := by
  cases ns with
  | nil => exact eqv_intsT []
  | cons i r => rfl
theorem ints_one : ∀ {xs ys : List Int}, xs.Pairwise (· ≤ ·) → ys.Pairwise (· ≤ ·) → xs.Perm ys → xs = ys
  | [], ys, _, _, p => by rw [List.nil_perm.mp p]
  | x :: xs, [], _, _, p => by cases List.perm_nil.mp p
  | x :: xs, y :: ys, hx, hy, p => by
    obtain ⟨a1, a2⟩ := List.pairwise_cons.mp hx
    obtain ⟨b1, b2⟩ := List.pairwise_cons.mp hy
    have e : x = y := by
      have m1 : x ∈ y :: ys := p.mem_iff.mp List.mem_cons_self
      have m2 : y ∈ x :: xs := p.mem_iff.mpr List.mem_cons_self
      rcases List.mem_cons.mp m1 with e | m1
      · exact e
      · rcases List.mem_cons.mp m2 with e | m2
        · exact e.symm
        · exact Int.le_antisymm (a1 y m2) (b1 x m1)
    subst e
    rw [ints_one a2 b2 (p.cons_inv)]
def RowK (G : Hp) (x : V) (cols : List Str) (o : Option (List V × List Int)) : Prop := (o = none ∧ x = .non) ∨ ∃ d row fs, o = some (row, fs) ∧ x = .ref d ∧ G d = some (.dK (cellsK cols row))
/-! the law's model of a row -/
def zipK (ws : List Str) (row : List V) : List (Key × V) := (ws.map Sum.inr).zip row
def putRow (ws : List Str) (row : List V) (y : Str) (v : V) : List V := (ws.zip row).map fun p => if p.1 = y then v else p.2
theorem putRow_len {ws : List Str} {row : List V} {y : Str} {v : V} (h : row.length = ws.length) : (putRow ws row y v).length = ws.length := by
  unfold putRow
  rw [List.length_map, List.length_zip, h, Nat.min_self]
theorem map_zipK (y : Str) (v : V) : ∀ (ws : List Str) (row : List V), (zipK ws row).map (fun kv => if kv.1 = Sum.inr y then (kv.1, v) else kv) = zipK ws (putRow ws row y v)
  | [], _ => rfl
  | _ :: _, [] => rfl
  | x :: ws, c :: row => by
    have ih := map_zipK y v ws row
    show (if (Sum.inr x : Key) = Sum.inr y then (Sum.inr x, v) else (Sum.inr x, c)) :: (zipK ws row).map _ = (Sum.inr x, if x = y then v else c) :: zipK ws (putRow ws row y v)
    rw [ih]
    by_cases e : x = y
    · rw [if_pos (by rw [e]), if_pos e]
    · rw [if_neg fun h => e (Sum.inr.inj h), if_neg e]
theorem putK_zip {ws : List Str} {row : List V} {y : Str} {v : V} (h : row.length = ws.length) (hy : y ∈ ws) : putK (zipK ws row) (Sum.inr y) v = zipK ws (putRow ws row y v) := by
  have hk : (zipK ws row).any (fun kv => decide (kv.1 = Sum.inr y)) = true := by
    have hm : (Sum.inr y : Key) ∈ (zipK ws row).map (·.1) := by
      show (Sum.inr y : Key) ∈ ((ws.map Sum.inr).zip row).map (·.1)
      rw [zip_keys h]
      exact List.mem_map_of_mem hy
    obtain ⟨p, h1, h2⟩ := List.mem_map.mp hm
    exact List.any_eq_true.mpr ⟨p, h1, decide_eq_true h2⟩
  unfold putK
  rw [if_pos hk]
  exact map_zipK y v ws row
def mrgR (kvs : List (Key × V)) (ws : List Str) (row : List V) : List V := (ws.zip row).map fun p => (valV kvs (Sum.inr p.1)).getD p.2
theorem mrgR_nil (ws : List Str) : ∀ {row : List V}, row.length = ws.length → mrgR [] ws row = row := by
  induction ws with
  | nil =>
    intro row h
    cases row with
    | nil => rfl
    | cons _ _ => cases h
  | cons x ws ih =>
    intro row h
    cases row with
    | nil => cases h
    | cons c row =>
      show c :: mrgR [] ws row = _
      rw [ih (Nat.succ.inj h)]
theorem mrgR_put {r : List (Key × V)} {y : Str} {v : V} (hy : (Sum.inr y : Key) ∉ r.map (·.1)) : ∀ (ws : List Str) (row : List V), mrgR r ws (putRow ws row y v) = mrgR ((Sum.inr y, v) :: r) ws row
  | [], _ => rfl
  | _ :: _, [] => rfl
  | x :: ws, c :: row => by
    show (valV r (Sum.inr x)).getD (if x = y then v else c) :: mrgR r ws (putRow ws row y v) = (valV ((Sum.inr y, v) :: r) (Sum.inr x)).getD c :: mrgR _ ws row
    rw [mrgR_put hy ws row]
    by_cases e : x = y
    · subst e
      have hn : valV r (Sum.inr x) = none := by
        cases q : valV r (Sum.inr x) with
        | none => rfl
        | some z =>
          have : (valV r (Sum.inr x)).isSome = true := by rw [q]; rfl
          rw [← valV_any] at this
          obtain ⟨p, h1, h2⟩ := List.any_eq_true.mp this
          exact absurd (List.mem_map.mpr ⟨p, h1, of_decide_eq_true h2⟩) hy
      rw [valV_pos rfl, hn, if_pos rfl]
      rfl
    · rw [if_neg e, valV_neg fun h => e (Sum.inr.inj h).symm]
theorem merge_zip {ws : List Str} : ∀ (kvs : List (Key × V)) (row : List V), row.length = ws.length → (kvs.map (·.1)).Nodup → (∀ k ∈ kvs.map (·.1), ∃ y ∈ ws, k = Sum.inr y) → mergeK (zipK ws row) kvs = zipK ws (mrgR kvs ws row)
  | [], row, h, _, _ => by rw [mrgR_nil ws h]; rfl
  | (k, v) :: r, row, h, nd, sub => by
    obtain ⟨y, hy, e⟩ := sub k List.mem_cons_self
    subst e
    rw [List.map_cons] at nd
    obtain ⟨n1, n2⟩ := List.nodup_cons.mp nd
    show mergeK (putK (zipK ws row) (Sum.inr y) v) r = _
    rw [putK_zip h hy, merge_zip r _ (putRow_len h) n2 fun k hk => sub k (List.mem_cons_of_mem _ hk), mrgR_put n1]
theorem zip_none {ws : List Str} : zipK ws (ws.map fun _ => V.non) = ws.map fun n => (Sum.inr n, V.non) := by
  unfold zipK
  induction ws with
  | nil => rfl
  | cons x ws ih =>
    show (Sum.inr x, V.non) :: (ws.map Sum.inr).zip (ws.map fun _ => V.non) = _
    rw [ih]
    rfl
theorem mrg_eq (kvs : List (Key × V)) (ws : List Str) (row : List V) : mrgRow kvs ws row = mrgR kvs ws row := rfl
theorem new_eq (kvs : List (Key × V)) : ∀ (ws : List Str), newRow kvs ws = mrgR kvs ws (ws.map fun _ => V.non)
  | [] => rfl
  | x :: ws => by
    have ih := new_eq kvs ws
    show (valV kvs (Sum.inr x)).getD .non :: newRow kvs ws = (valV kvs (Sum.inr x)).getD .non :: mrgR kvs ws (ws.map fun _ => V.non)
    rw [ih]
theorem mrg_len {kvs : List (Key × V)} {ws : List Str} {row : List V} (h : row.length = ws.length) : (mrgR kvs ws row).length = ws.length := by
  unfold mrgR
  rw [List.length_map, List.length_zip, h, Nat.min_self]
theorem mrg_int {kvs : List (Key × V)} {ws : List Str} {row : List V} (hk : ∀ q ∈ kvs, IntN q.2) (hr : ∀ v ∈ row, IntN v) : ∀ v ∈ mrgR kvs ws row, IntN v := fun v hv => by
  obtain ⟨p, h1, h2⟩ := List.mem_map.mp hv
  subst h2
  cases e : valV kvs (Sum.inr p.1) with
  | none => exact hr _ (List.of_mem_zip h1).2
  | some z =>
    obtain ⟨q, q1, q2⟩ : ∃ q ∈ kvs, q.2 = z := by
      unfold valV at e
      obtain ⟨q, h3, h4⟩ := Option.map_eq_some_iff.mp e
      exact ⟨q, List.mem_of_find?_eq_some h3, h4⟩
    exact q2 ▸ hk q q1
def ModelAt (G : Hp) (t : Addr) (cols : List Str) (o : Option (List V × List Int)) : Prop := ∃ x l, G t = some (.tup [x, .ref l]) ∧ RowK G x cols o ∧ G l = some (.lst ((holdD o).map V.int))
theorem RowK.same {H G : Hp} {x : V} {cols : List Str} {o : Option (List V × List Int)} (s : Same H G) (h : RowK H x cols o) : RowK G x cols o := by
  rcases h with h | ⟨d, row, fs, e1, e2, e3⟩
  · exact .inl h
  · exact .inr ⟨d, row, fs, e1, e2, s _ _ e3⟩
theorem ModelAt.same {H G : Hp} {t : Addr} {cols : List Str} {o : Option (List V × List Int)} (s : Same H G) (h : ModelAt H t cols o) : ModelAt G t cols o := by
  obtain ⟨x, l, h1, h2, h3⟩ := h
  exact ⟨x, l, s _ _ h1, h2.same s, s _ _ h3⟩
/-- a state's rows are good -/
def GoodO (cols : List Str) (o : Option (List V × List Int)) : Prop := ∀ row fs, o = some (row, fs) → row.length = cols.length ∧ fs ≠ [] ∧ fs.Pairwise (· ≤ ·) ∧ fs.Nodup ∧ ∀ v ∈ row, IntN v
theorem appR_one {way : Str} {cols : List Str} {kvs : List (Key × V)} {f : Int} {o o1 o2 : Option (List V × List Int)} (h1 : AppR way cols kvs f o o1) (h2 : AppR way cols kvs f o o2) : o1 = o2 := by
  rcases h1 with ⟨a, b⟩ | ⟨a, ⟨b, c⟩ | ⟨b1, b2, ys, c, so, ny, my⟩⟩ <;> rcases h2 with ⟨a', b'⟩ | ⟨a', ⟨b', c'⟩ | ⟨b1', b2', ys', c', so', ny', my'⟩⟩
  · rw [b, b']
  · exact absurd a a'
  · exact absurd a a'
  · exact absurd a' a
  · rw [c, c']
  · rcases b with b | b
    · exact absurd b b1'
    · exact absurd b b2'
  · exact absurd a' a
  · rcases b' with b' | b'
    · exact absurd b' b1
    · exact absurd b' b2
  · have e : ys = ys' := ints_one so so' ((List.perm_ext_iff_of_nodup ny ny').mpr fun z => (my z).trans (my' z).symm)
    rw [c, c', e]
theorem pr_mapH {α β : Type} {R S : α → β → Prop} (k : ∀ a b, R a b → S a b) : ∀ {as : List α} {bs : List β}, Paired R as bs → Paired S as bs
  | _, _, .nil => .nil
  | _, _, .cons r t => .cons (k _ _ r) (pr_mapH k t)
theorem inV_int (f : Int) (ns : List Int) : inV (.int f) (ns.map V.int) = decide (f ∈ ns) := by
  unfold inV
  rw [List.any_map]
  apply Bool.eq_iff_iff.mpr
  simp only [List.any_eq_true, Function.comp, decide_eq_true_eq]
  constructor
  · rintro ⟨y, hy, e⟩
    have e2 : (y == f) = true := e
    exact (eq_of_beq e2) ▸ hy
  · intro h
    exact ⟨f, h, beq_self_eq_true f⟩
theorem flat_ints (ts : List Int) : (ts.map V.int).all flatV = true := by
  rw [List.all_map]
  exact List.all_eq_true.mpr fun _ _ => rfl
theorem merge_snoc : ∀ (l acc : List (Key × V)) (k : Key) (v : V), mergeK acc (l ++ [(k, v)]) = putK (mergeK acc l) k v
  | [], _, _, _ => rfl
  | (j, w) :: r, acc, k, v => merge_snoc r (putK acc j w) k v
def baseR (b : Hab) (ws : List Str) (o : Option (List V × List Int)) (z : Str) : List V := if o.isSome = true ∧ (z = "change" ∨ b.pr ≠ "replace") then rowD o else ws.map fun _ => V.non
def foldB (b : Hab) (o : Option (List V × List Int)) (z : Str) : Prop := o.isNone = true ∨ z = "change" ∨ b.pr ≠ "keep"
instance (b : Hab) (o : Option (List V × List Int)) (z : Str) : Decidable (foldB b o z) := inferInstanceAs (Decidable (_ ∨ _ ∨ _))
theorem way_made {b : Hab} {ws : List Str} {kvs : List (Key × V)} {o : Option (List V × List Int)} {z : Str} (hb : HabIs b) (hz : z = "put" ∨ z = "change") (n1 : ¬ (o.isNone = true ∧ z = "change" ∧ b.la ≠ "make")) (n2 : ¬ (o.isSome = true ∧ z = "put" ∧ b.pr = "stop")) :
    wayOf b o.isSome z ≠ "stop" ∧ wayOf b o.isSome z ≠ "skip" ∧ wayOf b o.isSome z ≠ "one" ∧ wayOf b o.isSome z ≠ "all" ∧ writ (wayOf b o.isSome z) kvs ws o = if foldB b o z then mrgR kvs ws (baseR b ws o z) else baseR b ws o z := by
  obtain ⟨i1, _, _, _⟩ := hb
  have mk : wayOf b o.isSome z = "make" → o.isNone = true → wayOf b o.isSome z ≠ "stop" ∧ wayOf b o.isSome z ≠ "skip" ∧ wayOf b o.isSome z ≠ "one" ∧ wayOf b o.isSome z ≠ "all" ∧ writ (wayOf b o.isSome z) kvs ws o = if foldB b o z then mrgR kvs ws (baseR b ws o z) else baseR b ws o z := fun e h => by
    rw [e]
    refine ⟨by decide, by decide, by decide, by decide, ?_⟩
    rw [if_pos (.inl h)]
    have hb : baseR b ws o z = ws.map fun _ => V.non := if_neg fun q => by
      cases o with
      | none => cases q.1
      | some _ => cases h
    rw [hb, ← new_eq]
    unfold writ
    rw [if_neg (by decide), if_neg (by decide)]
  cases o with
  | none =>
    rcases hz with rfl | rfl
    · exact mk way_put rfl
    · have hl : b.la = "make" := Classical.byContradiction fun h => n1 ⟨rfl, rfl, h⟩
      exact mk (way_chg.trans hl) rfl
  | some q =>
    rcases hz with rfl | rfl
    · have e : wayOf b (some q).isSome "put" = b.pr := way_put
      rw [e]
      have ns : b.pr ≠ "stop" := fun h => n2 ⟨rfl, rfl, h⟩
      rcases List.mem_cons.mp i1 with h | i1
      · exact absurd h ns
      rcases List.mem_cons.mp i1 with h | i1
      · refine ⟨by rw [h]; decide, by rw [h]; decide, by rw [h]; decide, by rw [h]; decide, ?_⟩
        rw [if_neg fun f => by
          rcases f with f | f | f
          · cases f
          · exact absurd f (by decide)
          · exact f h]
        unfold writ baseR
        rw [if_pos h, if_pos ⟨rfl, .inr (by rw [h]; decide)⟩]
      rcases List.mem_cons.mp i1 with h | i1
      · refine ⟨by rw [h]; decide, by rw [h]; decide, by rw [h]; decide, by rw [h]; decide, ?_⟩
        rw [if_pos (.inr (.inr (by rw [h]; decide)))]
        have hbr : baseR b ws (some q) "put" = ws.map fun _ => V.non := if_neg fun f => by
          rcases f.2 with f | f
          · exact absurd f (by decide)
          · exact f h
        rw [hbr, ← new_eq]
        unfold writ
        rw [if_neg (by rw [h]; decide), if_neg (by rw [h]; decide)]
      rcases List.mem_cons.mp i1 with h | i1
      · refine ⟨by rw [h]; decide, by rw [h]; decide, by rw [h]; decide, by rw [h]; decide, ?_⟩
        rw [if_pos (.inr (.inr (by rw [h]; decide)))]
        unfold writ baseR
        rw [if_neg (by rw [h]; decide), if_pos h, if_pos ⟨rfl, .inr (by rw [h]; decide)⟩]
        rfl
      · cases i1
    · have e : wayOf b (some q).isSome "change" = "merge" := way_chg
      rw [e]
      refine ⟨by decide, by decide, by decide, by decide, ?_⟩
      rw [if_pos (.inr (.inl rfl))]
      unfold writ baseR
      rw [if_neg (by decide), if_pos rfl, if_pos ⟨rfl, .inl rfl⟩]
      rfl
theorem baseR_len {b : Hab} {ws : List Str} {o : Option (List V × List Int)} {z : Str} (g : GoodO ws o) : (baseR b ws o z).length = ws.length := by
  unfold baseR
  split
  · rename_i h
    cases o with
    | none => cases h.1
    | some q => exact (g q.1 q.2 rfl).1
  · rw [List.length_map]
end
end Lw

set_option Elab.async false
set_option linter.all false
set_option maxRecDepth 100000
set_option maxHeartbeats 40000000
namespace Lw
open PySem PySem.Spec PyProof.Rows L2
abbrev sTried : Stmt := top 38
section
variable {P : Program} {w : World} {K : PySem.W.Frag} {mg : Str → Option Value} {base : Heap}
/-! a message tried on a copy -/
structure TxtT (K : PySem.W.Frag) (mg : Str → Option Value) (CR : Addr) : Prop where
  isi : mg "isinstance" = none
  rt : mg "RuntimeError" = none
  vl : mg "ValueError" = none
  lk : mg "LookupError" = none
  gR : mg "Refused" = some (.ref CR)
  exc : ExcC K CR
  xf : XfC K CR
  nM : PySem.W.findIn K (.ref CR) "message" = some none
  nR : PySem.W.findIn K (.ref CR) "row" = some none
  exm : PySem.W.exmOne K (.ref CR) (.ref CR) = some true
  kR : PySem.W.kitOne K (.ref CR) (.type "RuntimeError") = some true
  kV : PySem.W.kitOne K (.ref CR) (.type "ValueError") = some false
  kL : PySem.W.kitOne K (.ref CR) (.type "LookupError") = some false
theorem app_b1 {f : Addr} {fd : FuncData} (F : AppD K f fd) : ∃ mv : List Value, KBn K fd ["self", "message", "feed"] 2 ["feed"] (fun us ws => us ++ (ws ++ mv)) (fun vs zs => vs ++ (zs ++ [])) :=
  F.kbinds0 2 ["feed"] [] (fun us mv ws => us ++ (ws ++ mv)) (fun z => by cases z) (fun q h => by cases h) (fun a b c => a.append (c.append b)) fun D doc pm an cdv ct us mv ws h1 h2 h3 => match us, h1, mv, h2, ws, h3 with
    | [_, _], _, [], _, [_], _ => rfl
theorem app_b0 {f : Addr} {fd : FuncData} (F : AppD K f fd) : ∃ ds, Vals [.int 0] ds ∧ Binds K fd ["self", "message", "feed"] ds :=
  F.binds0 2 (fun z => by cases z) rfl fun D doc pm an cdv ct us ks h1 h2 => match us, h1, ks, h2 with
    | [_, _], _, [_], _ => ⟨_, _, _, _, _, _, rfl, rfl, rfl⟩
theorem takesN {X : Cx} : L2N.Takes X (fun _ _ _ _ => False) := fun u s' h => by
  obtain ⟨_, _, _, _, _, _, _, _, _, _, _, _, _, _, _, _, z⟩ := h
  exact z.elim
def spTried (CY CH CP CC CT CR : Addr) : Sp := fun vs H Q _ => ∃ (p d h m : Addr) (b : Hab) (cols : List Str) (n : Nat) (st : Int → Option (List V × List Int)) (N : Hp) (z : Str) (key f : Int) (kvs : List (Key × V)) (pl : Bool), vs = [.ref p, .ref m, .int f, .bl pl] ∧ CopyOk CY CH H p d h b cols n st ∧ n ≤ 1000 ∧ cols.Nodup ∧ cols.length ≤ 60 ∧ Msg CP CC CT N H m z key kvs ∧
  (∀ row fs, st key = some (row, fs) → row.length = cols.length ∧ fs.length ≤ 50 ∧ ∀ v ∈ row, IntN v) ∧ WayOk2 (wayOf b (st key).isSome z) (st key) ∧ (wayOf b (st key).isSome z = "stop" → ∀ t r G, Same H G → G t = some (.tup [.ref m, r, .bl true]) → RowE G r (toldO cols (st key)) → Q (.ref t) G) ∧
  (wayOf b (st key).isSome z ≠ "stop" → ∀ G o', Keep2 p d H G → AppR (wayOf b (st key).isSome z) cols kvs f (st key) o' → CopyOk CY CH G p d h b cols (n + 1) (setSt st key o') → (∀ D, KeysOf G p D → KeysOf H p D ∨ H D = none) → Q .non G)
abbrev nTried : List Str := ["copy", "message", "feed", "is_plain", "told", "e", "kinds"]
theorem scTried : FnScope nTried ["copy", "message", "feed", "is_plain"] (defScope sTried) := ⟨rfl, rfl, rfl, by decide +kernel, rfl, by decide +kernel, by decide +kernel⟩
theorem ok_tried {CY CH CP CC CT CR f fA : Addr} {fd fdA : FuncData} (F : FnP K "_law_tried" sTried f fd) (T : TxtT K mg CR) (cl : Cls K CY) (MA : Meth K CY "apply" fA) (DA : AppD K fA fdA) (FA : FnOk P w K mg base (L2N.CX P w) 6 fA fdA ["self", "message", "feed"] (spApply CY CH CP CC CT CR)) :
    FnOk P w K mg base CX0 7 f fd ["copy", "message", "feed", "is_plain"] (spTried CY CH CP CC CT CR) := by
  obtain ⟨mv, kA⟩ := app_b1 DA
  obtain ⟨ds, vd, bA⟩ := app_b0 DA
  refine F.ok scTried (fun vs H Q E h => ?_) (fun cdv A outer s0 H vs Q E hr h => ?_)
  · obtain ⟨p, d, h, m, b, cols, n, st, N, z, key, fe, kvs, pl, rfl, _⟩ := h
    rfl
  · obtain ⟨p, d, h, m, b, cols, n, st, N, z, key, fe, kvs, pl, rfl, co, hn, ndc, lc, hm, hrow, hw, kS, k⟩ := h
    have nd := scTried.nd
    refine ⟨_, PSs.nox (pss_cons (L2N.ps_try_as (i := 5) (tb := _) (ts := _) (Wout := fun _ _ _ _ => False) rfl rfl nd rfl rfl ⟨rfl, by decide, Or.inl T.gR⟩ takesN
        (fun W pn xe tk _ => pss_one (ps_set (i := 4) nd rfl (Or.inl rfl) (pe_ifExp (PW.pt (pw_and (pt_val (pv 3)) (pw_and1 (pt_cmpR op_eq (pv 2) pe_int (nomark _))))) (pe_meth (E := (WL (cxOf CX0 P w K mg base nTried "_law_tried" (defScope sTried) f cdv A outer s0 H E) W)) (pv 0) cl MA FA hr bA vd (passL tk) (by exact (pa_cons (pv 1) pa_nil))) (Mk.pe_methK (E := (WL (cxOf CX0 P w K mg base nTried "_law_tried" (defScope sTried) f cdv A outer s0 H E) W)) (pv 0) cl MA FA hr kA (passL tk) (by exact (pa_cons (pv 1) pa_nil)) (by exact (pk_cons (pv 2) pk_nil))))))
        (fun a oe cls d pn hz hf => pss_cons (ps_set (i := 6) nd rfl (Or.inl rfl) (pe_lst (pa_cons (pe_callB (call_isED hz.zc hf) (by rfl) T.isi (by decide +kernel) (pa_cons (pv 5) (pa_cons (pe_bltn (v := .ty "RuntimeError") (by rfl) T.rt (by decide +kernel) rfl) pa_nil))) (pa_cons (pe_callB (call_isED hz.zc hf) (by rfl) T.isi (by decide +kernel) (pa_cons (pv 5) (pa_cons (pe_bltn (v := .ty "ValueError") (by rfl) T.vl (by decide +kernel) rfl) pa_nil))) (pa_cons (pe_callB (call_isED hz.zc hf) (by rfl) T.isi (by decide +kernel) (pa_cons (pv 5) (pa_cons (pe_bltn (v := .ty "LookupError") (by rfl) T.lk (by decide +kernel) rfl) pa_nil))) pa_nil)))))
          (pss_one (ps_ret (pe_tup (pa_cons (pe_xf T.xf T.nM hz.zc hf (pv 5)) (pa_cons (pe_xf T.xf T.nR hz.zc hf (pv 5)) (pa_cons (pe_cmpR (r := rEqD K) (by exact op_eqD hr.units) (pv 6) (pe_lst (pa_cons pe_bl (pa_cons pe_bl (pa_cons pe_bl pa_nil)))) (nomark _)) pa_nil))))))))
      (pss_one (ps_ret (pv 4)))), ?_⟩
    have main : ∀ (Q1 : VK), (wayOf b (st key).isSome z ≠ "stop" → ∀ G o', Keep2 p d H G → AppR (wayOf b (st key).isSome z) cols kvs fe (st key) o' → CopyOk CY CH G p d h b cols (n + 1) (setSt st key o') → (∀ D, KeysOf G p D → KeysOf H p D ∨ H D = none) → Q1 .non G) → ∀ (W : XK), (wayOf b (st key).isSome z = "stop" → ∀ e r G, H e = none → Same H G → G e = some (.xd (refF m r)) → RowE G r (toldO cols (st key)) → W (.ref CR) (some e) G) → spApply CY CH CP CC CT CR [.ref p, .ref m, .int fe] H Q1 W :=
      fun Q1 q W w => ⟨p, d, h, m, b, cols, n, st, N, z, key, fe, kvs, rfl, co, hn, ndc, lc, hm, hrow, hw, w, q⟩
    obtain ⟨dx, t0, l0, mks, ks, g1, _⟩ := id co.at_
    refine ⟨_, rfl, pl, rfl, ?_⟩
    cases pl with
    | false =>
      refine itFb rfl (itFb rfl ⟨_, rfl, p, dx, _, rfl, g1, rfl, _, rfl, rfl, _, rfl, rfl, ?_⟩)
      show spApply CY CH CP CC CT CR [.ref p, .ref m, .int fe] H _ _
      refine main _ (fun ns G o' k2 ha c2 kk => ⟨_, rfl, k ns G o' k2 ha c2 kk⟩) _ ?_
      intro hw0 e r G ne sG hG hr σ' hσ
      have h5 : ∀ z : Addr, (σ'.set 5 (some (.ref z)))[5]? = some (some (.ref z)) := fun z => List.getElem?_set_self (by rw [hσ]; show 5 < 7; decide)
      refine ⟨true, T.exm, fun _ y _ => ?_, fun e => Bool.noConfusion e⟩
      refine sq_set (fun x G5 => ∃ L, x = .ref L ∧ Same G G5 ∧ G5 L = some (.lst [.bl true, .bl false, .bl false])) (fun Q' q => ?_) ?_
      · refine ⟨_, h5 y, CR, e, .ty "RuntimeError", .type "RuntimeError", true, _, rfl, rfl, T.exc, rfl, fun u r => r, hG, T.kR, _, h5 y, CR, e, .ty "ValueError", .type "ValueError", false, _, rfl, rfl, T.exc, rfl, fun u r => r, hG, T.kV, _, h5 y, CR, e, .ty "LookupError", .type "LookupError", false, _, rfl, rfl, T.exc, rfl, fun u r => r, hG, T.kL, (by show 3 ≤ sizeLine; decide), fun L nL => ?_⟩
        exact q _ _ ⟨L, rfl, Lw.Same.new (Same.refl G) nL, upd_same⟩
      rintro _ G5 ⟨L, rfl, s5, gL⟩
      have h56 : ((σ'.set 5 (some (.ref y))).set 6 (some (.ref L)))[5]? = some (some (.ref y)) := by
        rw [List.getElem?_set_ne (by decide)]
        exact h5 y
      have h66 : ((σ'.set 5 (some (.ref y))).set 6 (some (.ref L)))[6]? = some (some (.ref L)) := List.getElem?_set_self (by rw [List.length_set, hσ]; show 6 < 7; decide)
      have hG5 := s5 _ _ hG
      refine ⟨_, h56, rfl, rfl, e, _, .ref m, rfl, hG5, rfl, _, h56, rfl, rfl, e, _, r, rfl, hG5, rfl, _, h66, (by show 3 ≤ sizeLine; decide), fun L2 n2 => ?_⟩
      have sL := Lw.Same.new (o := .lst [.bl true, .bl false, .bl false]) (Same.refl G5) n2
      refine ⟨.list [.bool true, .bool false, .bool false], .list [.bool true, .bool false, .bool false], .lst (SqL.of (sL _ _ gL)) (.cons (.bl _) (.cons (.bl _) (.cons (.bl _) .nil))), .lst (SqL.of upd_same) (.cons (.bl _) (.cons (.bl _) (.cons (.bl _) .nil))), by decide +kernel, by decide +kernel, (by show 3 ≤ sizeLine; decide), fun t nt => ?_⟩
      have sT := Lw.Same.new (o := .tup [.ref m, r, .bl true]) (Same.refl _) nt
      have sA := (sG.trans s5).trans (sL.trans sT)
      exact kS hw0 t r _ sA upd_same (hr.same ((s5.trans sL).trans sT))
    | true =>
      refine itTb rfl ⟨_, rfl, rfl, _, rfl, ?_⟩
      by_cases e0 : fe = 0
      · subst e0
        refine itTb (by decide) ⟨_, rfl, p, dx, _, rfl, g1, rfl, _, rfl, ?_⟩
        dsimp only [tNil]
        show spApply CY CH CP CC CT CR [.ref p, .ref m, .int 0] H _ _
        refine main _ (fun ns G o' k2 ha c2 kk => ⟨_, rfl, k ns G o' k2 ha c2 kk⟩) _ ?_
        intro hw0 e r G ne sG hG hr σ' hσ
        have h5 : ∀ z : Addr, (σ'.set 5 (some (.ref z)))[5]? = some (some (.ref z)) := fun z => List.getElem?_set_self (by rw [hσ]; show 5 < 7; decide)
        refine ⟨true, T.exm, fun _ y _ => ?_, fun e => Bool.noConfusion e⟩
        refine sq_set (fun x G5 => ∃ L, x = .ref L ∧ Same G G5 ∧ G5 L = some (.lst [.bl true, .bl false, .bl false])) (fun Q' q => ?_) ?_
        · refine ⟨_, h5 y, CR, e, .ty "RuntimeError", .type "RuntimeError", true, _, rfl, rfl, T.exc, rfl, fun u r => r, hG, T.kR, _, h5 y, CR, e, .ty "ValueError", .type "ValueError", false, _, rfl, rfl, T.exc, rfl, fun u r => r, hG, T.kV, _, h5 y, CR, e, .ty "LookupError", .type "LookupError", false, _, rfl, rfl, T.exc, rfl, fun u r => r, hG, T.kL, (by show 3 ≤ sizeLine; decide), fun L nL => ?_⟩
          exact q _ _ ⟨L, rfl, Lw.Same.new (Same.refl G) nL, upd_same⟩
        rintro _ G5 ⟨L, rfl, s5, gL⟩
        have h56 : ((σ'.set 5 (some (.ref y))).set 6 (some (.ref L)))[5]? = some (some (.ref y)) := by
          rw [List.getElem?_set_ne (by decide)]
          exact h5 y
        have h66 : ((σ'.set 5 (some (.ref y))).set 6 (some (.ref L)))[6]? = some (some (.ref L)) := List.getElem?_set_self (by rw [List.length_set, hσ]; show 6 < 7; decide)
        have hG5 := s5 _ _ hG
        refine ⟨_, h56, rfl, rfl, e, _, .ref m, rfl, hG5, rfl, _, h56, rfl, rfl, e, _, r, rfl, hG5, rfl, _, h66, (by show 3 ≤ sizeLine; decide), fun L2 n2 => ?_⟩
        have sL := Lw.Same.new (o := .lst [.bl true, .bl false, .bl false]) (Same.refl G5) n2
        refine ⟨.list [.bool true, .bool false, .bool false], .list [.bool true, .bool false, .bool false], .lst (SqL.of (sL _ _ gL)) (.cons (.bl _) (.cons (.bl _) (.cons (.bl _) .nil))), .lst (SqL.of upd_same) (.cons (.bl _) (.cons (.bl _) (.cons (.bl _) .nil))), by decide +kernel, by decide +kernel, (by show 3 ≤ sizeLine; decide), fun t nt => ?_⟩
        have sT := Lw.Same.new (o := .tup [.ref m, r, .bl true]) (Same.refl _) nt
        have sA := (sG.trans s5).trans (sL.trans sT)
        exact kS hw0 t r _ sA upd_same (hr.same ((s5.trans sL).trans sT))
      · refine itFb (decide_eq_false fun h => e0 (V.int.inj h)) ⟨_, rfl, p, dx, _, rfl, g1, rfl, _, rfl, rfl, _, rfl, rfl, ?_⟩
        show spApply CY CH CP CC CT CR [.ref p, .ref m, .int fe] H _ _
        refine main _ (fun ns G o' k2 ha c2 kk => ⟨_, rfl, k ns G o' k2 ha c2 kk⟩) _ ?_
        intro hw0 e r G ne sG hG hr σ' hσ
        have h5 : ∀ z : Addr, (σ'.set 5 (some (.ref z)))[5]? = some (some (.ref z)) := fun z => List.getElem?_set_self (by rw [hσ]; show 5 < 7; decide)
        refine ⟨true, T.exm, fun _ y _ => ?_, fun e => Bool.noConfusion e⟩
        refine sq_set (fun x G5 => ∃ L, x = .ref L ∧ Same G G5 ∧ G5 L = some (.lst [.bl true, .bl false, .bl false])) (fun Q' q => ?_) ?_
        · refine ⟨_, h5 y, CR, e, .ty "RuntimeError", .type "RuntimeError", true, _, rfl, rfl, T.exc, rfl, fun u r => r, hG, T.kR, _, h5 y, CR, e, .ty "ValueError", .type "ValueError", false, _, rfl, rfl, T.exc, rfl, fun u r => r, hG, T.kV, _, h5 y, CR, e, .ty "LookupError", .type "LookupError", false, _, rfl, rfl, T.exc, rfl, fun u r => r, hG, T.kL, (by show 3 ≤ sizeLine; decide), fun L nL => ?_⟩
          exact q _ _ ⟨L, rfl, Lw.Same.new (Same.refl G) nL, upd_same⟩
        rintro _ G5 ⟨L, rfl, s5, gL⟩
        have h56 : ((σ'.set 5 (some (.ref y))).set 6 (some (.ref L)))[5]? = some (some (.ref y)) := by
          rw [List.getElem?_set_ne (by decide)]
          exact h5 y
        have h66 : ((σ'.set 5 (some (.ref y))).set 6 (some (.ref L)))[6]? = some (some (.ref L)) := List.getElem?_set_self (by rw [List.length_set, hσ]; show 6 < 7; decide)
        have hG5 := s5 _ _ hG
        refine ⟨_, h56, rfl, rfl, e, _, .ref m, rfl, hG5, rfl, _, h56, rfl, rfl, e, _, r, rfl, hG5, rfl, _, h66, (by show 3 ≤ sizeLine; decide), fun L2 n2 => ?_⟩
        have sL := Lw.Same.new (o := .lst [.bl true, .bl false, .bl false]) (Same.refl G5) n2
        refine ⟨.list [.bool true, .bool false, .bool false], .list [.bool true, .bool false, .bool false], .lst (SqL.of (sL _ _ gL)) (.cons (.bl _) (.cons (.bl _) (.cons (.bl _) .nil))), .lst (SqL.of upd_same) (.cons (.bl _) (.cons (.bl _) (.cons (.bl _) .nil))), by decide +kernel, by decide +kernel, (by show 3 ≤ sizeLine; decide), fun t nt => ?_⟩
        have sT := Lw.Same.new (o := .tup [.ref m, r, .bl true]) (Same.refl _) nt
        have sA := (sG.trans s5).trans (sL.trans sT)
        exact kS hw0 t r _ sA upd_same (hr.same ((s5.trans sL).trans sT))
end
end Lw

set_option Elab.async false
set_option linter.all false
set_option maxRecDepth 100000
set_option maxHeartbeats 4000000
namespace Oq
open PySem PySem.Spec PyProof.Rows L2
/-! == and != of an instance with an own __eq__ -/
/-- what it is compared with, and the type of that -/
inductive Cv (C : Addr) (H : Hp) : V → Value → Prop where
  | ins {b dx D : Addr} {fs : List (Str × V)} (h : H b = some (.ins D dx fs)) : Cv C H (.ref b) (.ref D)
  | int (i : Int) : Cv C H (.int i) (.type "int")
  | bl (b : Bool) : Cv C H (.bl b) (.type "bool")
  | dic {p : Addr} {kvs : List (Key × V)} (h : H p = some (.dK kvs)) : Cv C H (.ref p) (.type "dict")
  | non : Cv C H .non (.type "NoneType")
  | str (z : Str) : Cv C H (.str z) (.type "str")
  | tup {p : Addr} {xs : List V} (h : H p = some (.tup xs)) : Cv C H (.ref p) (.type "tuple")
  | lst {p : Addr} {xs : List V} (h : H p = some (.lst xs)) : Cv C H (.ref p) (.type "list")
section
variable {X : Cx} {pins : List (Addr × Obj)} {σ : L2.St} {H : Hp} {s : Shared} {C : Addr}
theorem looks_ty {v : Value} {T : String} (h : ∀ s' : Shared, (∀ b o, s.heap.get? b = some o → s'.heap.get? b = some o) → s'.TypeIs v T) : PySem.W.Looks (model X.prog X.w) s.heap (typeOf v) (.type T) :=
  fun A Q E s' kept q => wpAny_typeOf (h s' kept) q
theorem Cv.looks (I : Inv X pins σ H s) {y : V} {u t : Value} (c : Cv C H y t) (r : RelV y u) : PySem.W.Looks (model X.prog X.w) s.heap (typeOf u) t := by
  cases c with
  | @ins b dx D fs h =>
    cases (show u = Value.ref b from r)
    obtain ⟨m, J, _⟩ := ins_get I.hok h
    obtain ⟨od, J, _⟩ := J.look
    exact J.type
  | non => cases (show u = Value.none from r); exact looks_ty fun _ _ => rfl
  | bl b => cases (show u = Value.bool b from r); exact looks_ty fun _ _ => rfl
  | int i => obtain ⟨t, e⟩ := (show ∃ t, u = Value.int i t from r); cases e; exact looks_ty fun _ _ => rfl
  | @dic p kvs h =>
    cases (show u = Value.ref p from r)
    obtain ⟨_, _, vs, _, o, es, ep, h1, h2, _⟩ := (show ObjOk X.prog X.w H s.heap p (.dK kvs) from I.hok p _ h)
    exact looks_ty fun s' kept => ⟨o, kept _ _ h1, h2.1⟩
  | str z => obtain ⟨t, e⟩ := (show ∃ t, u = Value.str z t from r); cases e; exact looks_ty fun _ _ => rfl
  | @tup p xs h =>
    cases (show u = Value.ref p from r)
    obtain ⟨_, its, rv, o, ho, hc, n, hd⟩ := (show ObjOk X.prog X.w H s.heap p (.tup xs) from I.hok p _ h)
    exact looks_ty fun s' kept => ⟨o, kept _ _ ho, hc⟩
  | @lst p xs h =>
    cases (show u = Value.ref p from r)
    obtain ⟨_, its, n, rv, ho⟩ := (show ObjOk X.prog X.w H s.heap p (.lst xs) from I.hok p _ h)
    exact looks_ty fun s' kept => ⟨_, kept _ _ ho, rfl⟩
/-- an own def, called below -/
theorem own_call {A : Around} {Ex : Value → Shared → Prop} {k : Nat} {f : Addr} {fd : FuncData} {ps : List Str} {sp : Sp} {us : List Value} {vs : List V} {Q : VK} (fr : A.frames = some X.stack) (room : Room k A) (F : FnOk X.prog X.w X.K X.mg X.base CX0 k f fd ps sp)
    (bt : Binds X.K fd ps []) (I : Inv X pins σ H s) (r : Vals vs us) (pr : sp vs H Q E0) : wpAny (model X.prog X.w) A (call (.ref f) us) (EP X pins σ Q) Ex s := by
  have e := I.env0
  have n : us.length = ps.length := by rw [← r.length]; exact F.len _ _ _ _ pr
  have b1 := bt s us I.kIn (by rw [List.append_nil]; exact n)
  rw [List.append_nil] at b1
  refine wpAny_call (codeAny_mono (F.run A X.stack s H ⟨us, []⟩ us vs Q E0 room ⟨fr, e.mod, e.bs, e.bsz, e.funs, e.frf, e.hok, e.bare⟩ b1 r pr) ?_)
  intro rr s2 z
  match rr, z with
  | .error e, z => exact z.elim
  | .ok (.ret u), z => exact I.after z
  | .ok .next, z => exact z.elim
  | .ok .brk, z => exact z.elim
  | .ok .cont, z => exact z.elim
/-- what a class with an own __eq__ and no own __ne__ has -/
structure EqC (K : PySem.W.Frag) (C f : Addr) : Prop where
  eq : PySem.W.findIn K (.ref C) "__eq__" = some (some (.ref f))
  ne : PySem.W.findIn K (.ref C) "__ne__" = some (some (.builtin "object.__ne__"))
  fn : PySem.W.isFn K (.ref f) = true
  ob : PySem.W.mroIn K C (.type "object") = some true
def rOwn (K : PySem.W.Frag) (C : Addr) (sp : Sp) (g : Bool → Bool) : R2 := fun x y H Q => ∃ (a dx : Addr) (fs : List (Str × V)) (t : Value), x = .ref a ∧ H a = some (.ins C dx fs) ∧ Cv C H y t ∧ PySem.W.notFirst K C t = true ∧
  sp [.ref a, y] H (fun v H' => ∃ b, v = .bl b ∧ Q (.bl (g b)) H') E0
variable {k : Nat} {f : Addr} {fd : FuncData} {ps : List Str} {sp : Sp}
theorem op_eqI (E : EqC X.K C f) (F : FnOk X.prog X.w X.K X.mg X.base CX0 k f fd ps sp) (bt : Binds X.K fd ps []) (room : Room k X.A) : OpR X (compareOp .Eq) (rOwn X.K C sp id) := by
  intro pins s σ H x y u v Q I rx ry h
  obtain ⟨a, dx, fs, t, rfl, ha, c, nf, pr⟩ := h
  cases (show u = Value.ref a from rx)
  obtain ⟨m, J, _⟩ := ins_get I.hok ha
  obtain ⟨od, J, _⟩ := J.look
  have fr := I.ok.frames
  obtain ⟨m2, hF⟩ := I.fr
  show wpAny (model X.prog X.w) X.A (richCompare .Eq (.ref a) v) (EP X pins σ Q) X.xe s
  refine PySem.W.cmp_K (op := .Eq) room.units0 hF I.ok.mod.kin J (c.looks I ry) nf E.eq E.fn (thn (own_call fr room F bt I (vs := [.ref a, y]) (.cons (show RelV (.ref a) (Value.ref a) from rfl) (.cons ry .nil)) pr) ?_)
  rintro r s2 ⟨z, H2, I2, rz, b, rfl, q⟩
  cases (show r = Value.bool b from rz)
  exact ⟨.bl b, H2, I2, rfl, q⟩
/-- object.__ne__ on such an instance: its own __eq__ is asked -/
theorem ne_entry {A : Around} {R : Fin → Shared → Prop} {Ex : Value → Shared → Prop} {a : Addr} {ox : Obj} {od : Option Obj} {u : Value} (hu : A.units < cLine) (E : EqC X.K C f) (KI : X.K.In s.heap) (J : PySem.W.InstAt s.heap a ox C od)
    (h : wpAny (model X.prog X.w) A (call (.ref f) [.ref a, u]) (fun r s' => ∃ b, r = .bool b ∧ R (.done (.ret (.bool (!b)))) s') Ex s) : wpAny (model X.prog X.w) A (Builtin.«object.__ne__» ⟨[.ref a, u], []⟩) R Ex s := by
  unfold Builtin.«object.__ne__»
  show wpAny _ _ (slotArgs "__ne__" 1 ⟨[.ref a, u], []⟩ >>= _) _ _ s
  refine wpAny_bind (wpAny_of_eq (rfl : slotArgs "__ne__" 1 ⟨[.ref a, u], []⟩ = pure (.ref a, [u])) ?_)
  refine wpAny_bind (wpAny_cRoomFor hu (wpAny_bind ?_))
  refine PySem.W.ifBound_K KI J E.eq E.fn (wpAny_mono h ?_ fun _ _ z => z)
  rintro r s' ⟨b, rfl, q⟩
  exact wpAny_bind (wpAny_truthy_bool (wpAny_pure q))
theorem ne_call {A : Around} {R : Value → Shared → Prop} {Ex : Value → Shared → Prop} {a : Addr} {ox : Obj} {od : Option Obj} {u : Value} (hu : A.units + 1 < cLine) (E : EqC X.K C f) (KI : X.K.In s.heap) (J : PySem.W.InstAt s.heap a ox C od)
    (h : wpAny (model X.prog X.w) A.in1 (call (.ref f) [.ref a, u]) (fun r s' => ∃ b, r = .bool b ∧ R (.bool (!b)) s') (fun _ _ => False) s) : wpAny (model X.prog X.w) A (tryCompare (.ref a) "__ne__" u) (fun r s' => ∃ v, r = some v ∧ v ≠ .notImplemented ∧ R v s') Ex s := by
  have run : wpAny (model X.prog X.w) A (call (.builtin "object.__ne__") [.ref a, u]) (fun v s' => ∃ b, v = .bool b ∧ R v s') Ex s := by
    refine wpAny_call (codeAny_call_builtin F.cmp_object.ne.plain F.cmpEntry_ne (PySem.W.check_slot F.cmpKind_ne F.cmpSplit_ne (J.type.andThen (PySem.W.looks_mroIn KI E.ob)) (F.cmpArgs_ne _ _) ?_))
    refine ne_entry (by show A.units + 1 < cLine; exact hu) E KI J (wpAny_mono h ?_ fun _ _ z => z.elim)
    rintro r s' ⟨b, rfl, q⟩
    exact ⟨b, rfl, _, rfl, q⟩
  unfold tryCompare
  have last : wpAny (model X.prog X.w) A (callSpecialIfBound? (.ref a) "__ne__" [u]) (fun r s' => ∃ b, r = some (.bool b) ∧ R (.bool b) s') Ex s := by
    simp only [callSpecialIfBound?, bindSpecialIfBound?]
    refine wpAny_holding (wpAny_bind (wpAny_bind (wpAny_bind (J.type.here ((PySem.W.looks_findIn KI E.ne).here (wpAny_bind (wpAny_askSetting (wpAny_ite ?_))))))))
    have go : wpAny (model X.prog X.w) A (call (.builtin "object.__ne__") ([.ref a] ++ [u]) >>= fun v => pure (some v)) (fun r s' => ∃ b, r = some (.bool b) ∧ R (.bool b) s') Ex s := by
      refine wpAny_bind (wpAny_mono run ?_ fun _ _ z => z)
      rintro v s' ⟨b, rfl, q⟩
      exact wpAny_pure ⟨b, rfl, q⟩
    split
    · exact wpAny_bind (wpAny_of_eq (F.cmp_object.ne.bind _) (wpAny_pure (by exact go)))
    · exact wpAny_tryCatch (wpAny_bind (wpAny_of_eq (F.cmp_object.ne.bind _) (wpAny_pure (by exact go))))
  refine wpAny_bind (wpAny_mono last ?_ fun _ _ z => z)
  rintro r s' ⟨b, rfl, q⟩
  exact wpAny_pure ⟨_, rfl, (fun z => by cases z), q⟩
theorem rich_ne {R : Value → Shared → Prop} {Ex : Value → Shared → Prop} {A : Around} {a : Addr} {ox : Obj} {od : Option Obj} {u t : Value} (hu : A.units < cLine) (KI : X.K.In s.heap) (J : PySem.W.InstAt s.heap a ox C od) (look : PySem.W.Looks (model X.prog X.w) s.heap (typeOf u) t)
    (nf : PySem.W.notFirst X.K C t = true) (h : wpAny (model X.prog X.w) A (tryCompare (.ref a) "__ne__" u) (fun r s' => ∃ v, r = some v ∧ v ≠ .notImplemented ∧ R v s') Ex s) : wpAny (model X.prog X.w) A (richCompare .NotEq (.ref a) u) R Ex s := by
  have sub : t = .ref C ∨ PySem.W.subIn X.K t (.ref C) = some false := (Bool.or_eq_true_iff.mp nf).imp beq_iff_eq.mp beq_iff_eq.mp
  have go : ∀ K2 : Option Value → Sem Value, (∀ v, K2 (some v) = pure v) → wpAny (model X.prog X.w) A (tryCompare (.ref a) "__ne__" u >>= K2) R Ex s := by
    intro K2 e
    refine wpAny_bind (wpAny_mono h ?_ fun _ _ z => z)
    rintro r s' ⟨v, rfl, _, q⟩
    rw [e v]
    exact wpAny_pure q
  unfold richCompare
  simp only [oneThing_ref]
  refine wpAny_holding (wpAny_bind (wpAny_cRoomFor hu (wpAny_bind (J.type.here (wpAny_bind (look.here ?_))))))
  split
  · rename_i q
    rcases sub with e | e
    · rw [e] at q
      simp at q
    · refine wpAny_bind ((PySem.W.looks_subIn KI e).here ?_)
      simp only [Bool.false_eq_true, if_false]
      exact go _ fun _ => rfl
  · refine wpAny_bind (wpAny_pure ?_)
    simp only [Bool.false_eq_true, if_false]
    exact go _ fun _ => rfl
theorem op_neI (E : EqC X.K C f) (F : FnOk X.prog X.w X.K X.mg X.base CX0 k f fd ps sp) (bt : Binds X.K fd ps []) (room : Room (k + 1) X.A) : OpR X (compareOp .NotEq) (rOwn X.K C sp Bool.not) := by
  intro pins s σ H x y u v Q I rx ry h
  obtain ⟨a, dx, fs, t, rfl, ha, c, nf, pr⟩ := h
  cases (show u = Value.ref a from rx)
  obtain ⟨m, J, _⟩ := ins_get I.hok ha
  obtain ⟨od, J, _⟩ := J.look
  have fr := I.ok.frames
  have r1 : Room k X.A.in1 := room.in1
  show wpAny (model X.prog X.w) X.A (richCompare .NotEq (.ref a) v) (EP X pins σ Q) X.xe s
  refine rich_ne room.units0 I.kIn J (c.looks I ry) nf (ne_call r1.units0 E I.kIn J (thn (own_call (A := X.A.in1) fr r1 F bt I (vs := [.ref a, y]) (.cons (show RelV (.ref a) (Value.ref a) from rfl) (.cons ry .nil)) pr) ?_))
  rintro r s2 ⟨z, H2, I2, rz, b, rfl, q⟩
  cases (show r = Value.bool b from rz)
  exact ⟨b, rfl, .bl (!b), H2, I2, rfl, q⟩
end
end Oq

set_option Elab.async false
set_option linter.all false
set_option maxRecDepth 100000
set_option maxHeartbeats 4000000
namespace Lw
open PySem PySem.Spec PyProof.Rows L2
/-! == and != of dicts of integers and None, with both answers; tuples of a text, an integer and such a dict -/
def eK (ks ls : List (Key × V)) (k : Key) : Bool := match valV ks k, valV ls k with
  | some x, some y => eqV x y
  | _, _ => false
def sameK (ks ls : List (Key × V)) : Bool := ks.length == ls.length && ks.all fun p => (valV ls p.1).isSome && eK ks ls p.1
theorem IntN.flatV {v : V} (h : IntN v) : L2.flatV v = true := by
  rcases h with ⟨i, rfl⟩ | rfl <;> rfl
theorem eqV_N {x y : V} (hx : IntN x) (hy : IntN y) : eqV x y = decide (x = y) := by
  rcases hx with ⟨i, rfl⟩ | rfl <;> rcases hy with ⟨j, rfl⟩ | rfl
  · by_cases e : i = j
    · subst e; simp [eqV]
    · rw [decide_eq_false fun h => e (V.int.inj h)]; simp [eqV, e]
  · rfl
  · rfl
  · rfl
def rEqDB (g : Bool → Bool) : R2 := fun x y H Q => ∃ a b ks ls, x = .ref a ∧ y = .ref b ∧ H a = some (.dK ks) ∧ H b = some (.dK ls) ∧ (ks.map (·.1)).Nodup ∧ (∀ p ∈ ks, IntN p.2) ∧ (∀ p ∈ ls, IntN p.2) ∧ Q (.bl (g (sameK ks ls))) H
theorem val_in {ls : List (Key × V)} {k : Key} {v : V} (h : valV ls k = some v) : ∃ p ∈ ls, p.1 = k ∧ p.2 = v := by
  unfold valV at h
  obtain ⟨p, hp, e⟩ := Option.map_eq_some_iff.mp h
  exact ⟨p, List.mem_of_find?_eq_some hp, by have z := List.find?_some hp; exact of_decide_eq_true (p := p.1 = k) z, e⟩
theorem dict_tree {P : Program} {w : World} {s : Shared} {ks ls : List (Key × V)} {va vb : List (Key × Value)} (ra : KV ks va) (rb : KV ls vb) (nd : (ks.map (·.1)).Nodup) (hk : ∀ p ∈ ks, IntN p.2) (hl : ∀ p ∈ ls, IntN p.2) :
    ∀ k v y, (k, v) ∈ va → valueAt vb k = some y → PySem.W.EqTree P w s 1 v y (eK ks ls k) := fun k v y hm hv => by
  have r1 := ra.val k
  have r2 := rb.val k
  rw [hv] at r2
  have nv : (va.map (·.1)).Nodup := by rw [← ra.keys]; exact nd
  have e1 : valueAt va k = some v := valueAt_of_mem nv hm
  rw [e1] at r1
  cases h1 : valV ks k with
  | none => rw [h1] at r1; exact absurd r1 id
  | some x =>
    cases h2 : valV ls k with
    | none => rw [h2] at r2; exact absurd r2 id
    | some z =>
      rw [h1] at r1
      rw [h2] at r2
      have e : eK ks ls k = eqV x z := by unfold eK; rw [h1, h2]
      rw [e]
      obtain ⟨p, hp, _, ep⟩ := val_in h1
      obtain ⟨q, hq, _, eq⟩ := val_in h2
      exact .leaf fun A _ => eqAt_V r1 r2 (ep ▸ (hk p hp).flatV) (eq ▸ (hl q hq).flatV)
theorem dict_all {ks ls : List (Key × V)} {va vb : List (Key × Value)} (ra : KV ks va) (rb : KV ls vb) : (va.length == vb.length && va.all fun p => (valueAt vb p.1).isSome && eK ks ls p.1) = sameK ks ls := by
  unfold sameK
  have e1 : va.length = ks.length := ra.length.symm
  have e2 : vb.length = ls.length := rb.length.symm
  rw [e1, e2]
  congr 1
  have e3 : va.all (fun p => (valueAt vb p.1).isSome && eK ks ls p.1) = (va.map (·.1)).all fun k => (valV ls k).isSome && eK ks ls k := by
    rw [List.all_map]
    congr 1
    funext p
    show _ = ((valV ls p.1).isSome && eK ks ls p.1)
    rw [(rb.val p.1).isSome_eq]
  rw [e3, ← ra.keys, List.all_map]
  rfl
section
variable {X : Cx}
theorem op_eq_dB (hu : X.A.units + 64 < cLine) : OpR X (compareOp .Eq) (rEqDB id) := by
  intro pins s σ H x y v u Q I rx ry h
  obtain ⟨a, b, ks, ls, rfl, rfl, ea, eb, nd, hk, hl, q⟩ := h
  obtain rfl : v = Value.ref a := rx
  obtain rfl : u = Value.ref b := ry
  obtain ⟨_, ya, va, ra, da⟩ := (show ObjOk X.prog X.w H s.heap a (.dK ks) from I.hok a _ ea)
  obtain ⟨_, yb, vb, rb, db⟩ := (show ObjOk X.prog X.w H s.heap b (.dK ls) from I.hok b _ eb)
  exact PySem.W.eq_dictsT (knd := mixKind X.prog X.w) (e := eK ks ls) ya yb da db (dict_tree ra rb nd hk hl) (n := 1) (by omega) (by rw [dict_all ra rb]; exact ⟨.bl _, H, I, rfl, q⟩)
theorem nodup_len {α : Type} [DecidableEq α] : ∀ {l ts : List α}, l.Nodup → (∀ x ∈ l, x ∈ ts) → l.length ≤ ts.length
  | [], _, _, _ => Nat.zero_le _
  | x :: l, ts, hn, hs => by
    have hx : x ∈ ts := hs x List.mem_cons_self
    have hn2 := List.nodup_cons.mp hn
    have ih := nodup_len (l := l) (ts := ts.erase x) hn2.2 fun y hy => by
      have ne : y ≠ x := fun e => hn2.1 (e ▸ hy)
      exact (List.mem_erase_of_ne ne).mpr (hs y (List.mem_cons_of_mem _ hy))
    rw [List.length_erase_of_mem hx] at ih
    have pos : 0 < ts.length := List.length_pos_of_mem hx
    simp only [List.length_cons]
    omega
theorem nodup_all {α : Type} [DecidableEq α] {l ts : List α} (hn : l.Nodup) (hs : ∀ x ∈ l, x ∈ ts) (hl : ts.length = l.length) (y : α) (hy : y ∈ ts) : y ∈ l := by
  cases Classical.em (y ∈ l) with
  | inl h => exact h
  | inr h =>
    have := nodup_len (l := y :: l) (ts := ts) (List.nodup_cons.mpr ⟨h, hn⟩) fun x hx => by
      rcases List.mem_cons.mp hx with rfl | hx
      · exact hy
      · exact hs x hx
    simp only [List.length_cons] at this
    omega
theorem val_none {ls : List (Key × V)} {k : Key} (h : k ∉ ls.map (·.1)) : valV ls k = none := by
  cases e : valV ls k with
  | none => rfl
  | some v =>
    obtain ⟨p, hp, ek, _⟩ := val_in e
    exact absurd (List.mem_map.mpr ⟨p, hp, ek⟩) h
theorem val_some {ls : List (Key × V)} (nd : (ls.map (·.1)).Nodup) {k : Key} (h : k ∈ ls.map (·.1)) : ∃ v, valV ls k = some v ∧ (k, v) ∈ ls := by
  obtain ⟨p, hp, rfl⟩ := List.mem_map.mp h
  exact ⟨p.2, valV_mem nd p hp, hp⟩
theorem sameK_iff {ks ls : List (Key × V)} (n1 : (ks.map (·.1)).Nodup) (n2 : (ls.map (·.1)).Nodup) (hk : ∀ p ∈ ks, IntN p.2) (hl : ∀ p ∈ ls, IntN p.2) : sameK ks ls = true ↔ ∀ k, valV ks k = valV ls k := by
  unfold sameK
  rw [Bool.and_eq_true, beq_iff_eq, List.all_eq_true]
  constructor
  · rintro ⟨hlen, hall⟩ k
    have one : ∀ p ∈ ks, valV ls p.1 = some p.2 := fun p hp => by
      have z := hall p hp
      rw [Bool.and_eq_true] at z
      obtain ⟨z1, z2⟩ := z
      obtain ⟨y, hy⟩ := Option.isSome_iff_exists.mp z1
      unfold eK at z2
      rw [valV_mem n1 p hp, hy] at z2
      obtain ⟨q, hq, _, eq⟩ := val_in hy
      have z3 : eqV p.2 y = true := z2
      rw [eqV_N (hk p hp) (eq ▸ hl q hq)] at z3
      rw [hy, of_decide_eq_true z3]
    by_cases hm : k ∈ ks.map (·.1)
    · obtain ⟨v, hv, hp⟩ := val_some n1 hm
      rw [hv, one _ hp]
    · have hm2 : k ∉ ls.map (·.1) := fun h => hm (nodup_all n1 (fun x hx => by
        obtain ⟨p, hp, rfl⟩ := List.mem_map.mp hx
        obtain ⟨q, hq, e, _⟩ := val_in (one p hp)
        exact List.mem_map.mpr ⟨q, hq, e⟩) (by rw [List.length_map, List.length_map, hlen]) k h)
      rw [val_none hm, val_none hm2]
  · intro h
    have sub : ∀ {as bs : List (Key × V)}, (as.map (·.1)).Nodup → (∀ k, valV as k = valV bs k) → ∀ x ∈ as.map (·.1), x ∈ bs.map (·.1) := fun {as bs} na hab x hx => by
      obtain ⟨v, hv, _⟩ := val_some na hx
      rw [hab] at hv
      obtain ⟨q, hq, e, _⟩ := val_in hv
      exact List.mem_map.mpr ⟨q, hq, e⟩
    refine ⟨?_, fun p hp => ?_⟩
    · have l1 := nodup_len n1 (sub n1 h)
      have l2 := nodup_len n2 (sub n2 fun k => (h k).symm)
      simp only [List.length_map] at l1 l2
      omega
    · have e1 := valV_mem n1 p hp
      have e2 := e1
      rw [h] at e2
      unfold eK
      rw [e1, e2]
      show (true && eqV p.2 p.2) = true
      rw [eqV_N (hk p hp) (hk p hp), decide_eq_true rfl]
      rfl
theorem sameK_refl {ks : List (Key × V)} (h : RowOk ks) : sameK ks ks = true := (sameK_iff h.nodup h.nodup h.2.1 h.2.1).mpr fun _ => rfl
theorem sameK_congr {ks ls ms : List (Key × V)} (h1 : RowOk ks) (h2 : RowOk ls) (h3 : RowOk ms) (h : ∀ k, valV ls k = valV ms k) : sameK ks ls = sameK ks ms := by
  rw [Bool.eq_iff_iff, sameK_iff h1.nodup h2.nodup h1.2.1 h2.2.1, sameK_iff h1.nodup h3.nodup h1.2.1 h3.2.1]
  exact ⟨fun z k => (z k).trans (h k), fun z k => (z k).trans (h k).symm⟩
end
end Lw

set_option Elab.async false
set_option linter.all false
set_option maxRecDepth 100000
set_option maxHeartbeats 40000000
namespace Lw
open PySem PySem.Spec PyProof.Rows L2
abbrev sPutE : Stmt := inClass (top 10) 3
abbrev sChgE : Stmt := inClass (top 11) 3
abbrev sTakeE : Stmt := inClass (top 12) 3
abbrev sIsInteger : Stmt := top 31
abbrev sIsRow : Stmt := top 32
section
variable {P : Program} {w : World} {K : PySem.W.Frag} {mg : Str → Option Value} {base : Heap}
/-! messages compared -/
def plT : List String := ["NoneType", "int", "bool", "str", "tuple", "list", "dict"]
theorem kit_own {D : Addr} : PySem.W.kitOne K (.ref D) (.ref D) = some true := by
  unfold PySem.W.kitOne
  simp
theorem Msg.deed {CP CC CT : Addr} {N H : Hp} {m : Addr} {z : Str} {key : Int} {kvs : List (Key × V)} (h : Msg CP CC CT N H m z key kvs) : z ∈ deeds := by
  obtain ⟨n, h | ⟨hz, _⟩⟩ := h
  · rw [h.1]; decide
  · rcases hz with rfl | rfl <;> decide
def spMEq (K : PySem.W.Frag) (C : Addr) : Sp := fun vs H Q _ => ∃ (p dx d : Addr) (key : Int) (kvs : List (Key × V)) (y : V), vs = [.ref p, y] ∧ H p = some (.ins C dx [("key", .int key), ("_cells", .ref d)]) ∧ H d = some (.dK kvs) ∧ RowOk kvs ∧
  ((∃ (q dq dd : Addr) (key2 : Int) (kvs2 : List (Key × V)), y = .ref q ∧ H q = some (.ins C dq [("key", .int key2), ("_cells", .ref dd)]) ∧ H dd = some (.dK kvs2) ∧ RowOk kvs2 ∧ Q (.bl (decide (key = key2) && sameK kvs kvs2)) H) ∨
   (∃ t, TyX K H y t ∧ PySem.W.kitOne K t (.ref C) = some false) ∧ Q (.bl false) H)
theorem scPutE : FnScope ["self", "other"] ["self", "other"] (defScope sPutE) := ⟨rfl, rfl, rfl, by decide +kernel, rfl, by decide +kernel, by decide +kernel⟩
theorem ok_putE {C f : Addr} {fd : FuncData} (F : MethD K "__eq__" "Put.__eq__" sPutE f fd) (T : TxtC1 K C) (nC : NoAttr K C "_cells") (gC : mg "Put" = some (.ref C)) (hi : mg "isinstance" = none) : FnOk P w K mg base CX0 1 f fd ["self", "other"] (spMEq K C) := by
  refine F.ok scPutE (fun vs H Q E h => ?_) (fun cdv A outer s H vs Q E hr h => ?_)
  · obtain ⟨p, dx, d, key, kvs, y, rfl, _⟩ := h
    rfl
  · obtain ⟨p, dx, d, key, kvs, y, rfl, hp, hd, rk, h⟩ := h
    refine ⟨_, PSs.nox (pss_one (ps_ret (pe_and (pe_callB call_isi (by rfl) hi (by decide +kernel) (pa_cons (pv 1) (pa_cons (pe_glob (v := .ref C) rfl gC rfl) pa_nil)))
      (pe_and (pe_cmpR op_eq (pe_fld (pv 0) (by rfl)) (pe_fld (pv 1) (by rfl)) (nomark _)) (pe_one (pe_cmpR (op_eq_dB hr.units) (pe_fld (pv 0) (by rfl)) (pe_fld (pv 1) (by rfl)) (nomark _))))))), ?_⟩
    rcases h with ⟨q, dq, dd, key2, kvs2, rfl, hq, hdd, rk2, k⟩ | ⟨⟨t, ht, kt⟩, k⟩
    · refine ⟨_, rfl, _, _, _, _, true, rfl, .own C, .base (.ins hq T.cl T.ha T.hn T.ht T.hm), kit_own, true, rfl, iteT ?_⟩
      refine ⟨_, rfl, p, C, dx, _, .int key, rfl, hp, T.cl, T.nK, rfl, _, rfl, q, C, dq, _, .int key2, rfl, hq, T.cl, T.nK, rfl, rfl, _, rfl, ?_⟩
      by_cases e : key = key2
      · subst e
        rw [decide_eq_true rfl] at k
        refine it_bt (by simp) ?_
        exact ⟨_, rfl, p, C, dx, _, .ref d, rfl, hp, T.cl, nC, rfl, _, rfl, q, C, dq, _, .ref dd, rfl, hq, T.cl, nC, rfl, d, dd, kvs, kvs2, rfl, rfl, hd, hdd, rk.nodup, rk.2.1, rk2.2.1, k⟩
      · rw [decide_eq_false e] at k
        refine it_bf (decide_eq_false fun h => e (V.int.inj h)) ?_
        exact k
    · exact ⟨_, rfl, _, _, _, _, false, rfl, .own C, ht, kt, false, rfl, iteF k⟩
theorem scChgE : FnScope ["self", "other"] ["self", "other"] (defScope sChgE) := ⟨rfl, rfl, rfl, by decide +kernel, rfl, by decide +kernel, by decide +kernel⟩
theorem ok_chgE {C f : Addr} {fd : FuncData} (F : MethD K "__eq__" "Change.__eq__" sChgE f fd) (T : TxtC1 K C) (nC : NoAttr K C "_cells") (gC : mg "Change" = some (.ref C)) (hi : mg "isinstance" = none) : FnOk P w K mg base CX0 1 f fd ["self", "other"] (spMEq K C) := by
  refine F.ok scChgE (fun vs H Q E h => ?_) (fun cdv A outer s H vs Q E hr h => ?_)
  · obtain ⟨p, dx, d, key, kvs, y, rfl, _⟩ := h
    rfl
  · obtain ⟨p, dx, d, key, kvs, y, rfl, hp, hd, rk, h⟩ := h
    refine ⟨_, PSs.nox (pss_one (ps_ret (pe_and (pe_callB call_isi (by rfl) hi (by decide +kernel) (pa_cons (pv 1) (pa_cons (pe_glob (v := .ref C) rfl gC rfl) pa_nil)))
      (pe_and (pe_cmpR op_eq (pe_fld (pv 0) (by rfl)) (pe_fld (pv 1) (by rfl)) (nomark _)) (pe_one (pe_cmpR (op_eq_dB hr.units) (pe_fld (pv 0) (by rfl)) (pe_fld (pv 1) (by rfl)) (nomark _))))))), ?_⟩
    rcases h with ⟨q, dq, dd, key2, kvs2, rfl, hq, hdd, rk2, k⟩ | ⟨⟨t, ht, kt⟩, k⟩
    · refine ⟨_, rfl, _, _, _, _, true, rfl, .own C, .base (.ins hq T.cl T.ha T.hn T.ht T.hm), kit_own, true, rfl, iteT ?_⟩
      refine ⟨_, rfl, p, C, dx, _, .int key, rfl, hp, T.cl, T.nK, rfl, _, rfl, q, C, dq, _, .int key2, rfl, hq, T.cl, T.nK, rfl, rfl, _, rfl, ?_⟩
      by_cases e : key = key2
      · subst e
        rw [decide_eq_true rfl] at k
        refine it_bt (by simp) ?_
        exact ⟨_, rfl, p, C, dx, _, .ref d, rfl, hp, T.cl, nC, rfl, _, rfl, q, C, dq, _, .ref dd, rfl, hq, T.cl, nC, rfl, d, dd, kvs, kvs2, rfl, rfl, hd, hdd, rk.nodup, rk.2.1, rk2.2.1, k⟩
      · rw [decide_eq_false e] at k
        refine it_bf (decide_eq_false fun h => e (V.int.inj h)) ?_
        exact k
    · exact ⟨_, rfl, _, _, _, _, false, rfl, .own C, ht, kt, false, rfl, iteF k⟩
def spTEq (K : PySem.W.Frag) (C : Addr) : Sp := fun vs H Q _ => ∃ (p dx : Addr) (key : Int) (y : V), vs = [.ref p, y] ∧ H p = some (.ins C dx [("key", .int key)]) ∧
  ((∃ (q dq : Addr) (key2 : Int), y = .ref q ∧ H q = some (.ins C dq [("key", .int key2)]) ∧ Q (.bl (decide (key = key2))) H) ∨ (∃ t, TyX K H y t ∧ PySem.W.kitOne K t (.ref C) = some false) ∧ Q (.bl false) H)
theorem scTakeE : FnScope ["self", "other"] ["self", "other"] (defScope sTakeE) := ⟨rfl, rfl, rfl, by decide +kernel, rfl, by decide +kernel, by decide +kernel⟩
theorem ok_takeE {C f : Addr} {fd : FuncData} (F : MethD K "__eq__" "Take.__eq__" sTakeE f fd) (T : TxtC1 K C) (gC : mg "Take" = some (.ref C)) (hi : mg "isinstance" = none) : FnOk P w K mg base CX0 1 f fd ["self", "other"] (spTEq K C) := by
  refine F.ok scTakeE (fun vs H Q E h => ?_) (fun cdv A outer s H vs Q E hr h => ?_)
  · obtain ⟨p, dx, key, y, rfl, _⟩ := h
    rfl
  · obtain ⟨p, dx, key, y, rfl, hp, h⟩ := h
    refine ⟨_, PSs.nox (pss_one (ps_ret (pe_and (pe_callB call_isi (by rfl) hi (by decide +kernel) (pa_cons (pv 1) (pa_cons (pe_glob (v := .ref C) rfl gC rfl) pa_nil))) (pe_one (pe_cmpR op_eq (pe_fld (pv 0) (by rfl)) (pe_fld (pv 1) (by rfl)) (nomark _)))))), ?_⟩
    rcases h with ⟨q, dq, key2, rfl, hq, k⟩ | ⟨⟨t, ht, kt⟩, k⟩
    · refine ⟨_, rfl, _, _, _, _, true, rfl, .own C, .base (.ins hq T.cl T.ha T.hn T.ht T.hm), kit_own, true, rfl, iteT ?_⟩
      refine ⟨_, rfl, p, C, dx, _, .int key, rfl, hp, T.cl, T.nK, rfl, _, rfl, q, C, dq, _, .int key2, rfl, hq, T.cl, T.nK, rfl, rfl, ?_⟩
      have e : decide (V.int key = V.int key2) = decide (key = key2) := by
        by_cases e : key = key2
        · rw [decide_eq_true e, decide_eq_true (by rw [e])]
        · rw [decide_eq_false e, decide_eq_false fun h => e (V.int.inj h)]
      rw [e]
      exact k
    · exact ⟨_, rfl, _, _, _, _, false, rfl, .own C, ht, kt, false, rfl, iteF k⟩
/-- what the text's classes must have for == and != -/
structure EqM (P : Program) (w : World) (K : PySem.W.Frag) (mg : Str → Option Value) (base : Heap) (C : Addr) (sp : Sp) : Prop where
  T : TxtC1 K C
  ex : ∃ f fd, Oq.EqC K C f ∧ FnOk P w K mg base CX0 1 f fd ["self", "other"] sp ∧ Binds K fd ["self", "other"] []
  pl : ∀ t ∈ plT, PySem.W.notFirst K C (.type t) = true ∧ PySem.W.kitOne K (.type t) (.ref C) = some false
structure EqF (P : Program) (w : World) (K : PySem.W.Frag) (mg : Str → Option Value) (base : Heap) (CP CC CT : Addr) : Prop where
  eP : EqM P w K mg base CP (spMEq K CP)
  eC : EqM P w K mg base CC (spMEq K CC)
  eT : EqM P w K mg base CT (spTEq K CT)
  nf : ∀ z ∈ deeds, ∀ z2 ∈ deeds, PySem.W.notFirst K (clsOf CP CC CT z) (.ref (clsOf CP CC CT z2)) = true ∧ (z ≠ z2 → PySem.W.kitOne K (.ref (clsOf CP CC CT z2)) (.ref (clsOf CP CC CT z)) = some false)
def rMs (K : PySem.W.Frag) (CP CC CT : Addr) (g : Bool → Bool) : R2 := fun x y H Q => Oq.rOwn K CP (spMEq K CP) g x y H Q ∨ (Oq.rOwn K CC (spMEq K CC) g x y H Q ∨ Oq.rOwn K CT (spTEq K CT) g x y H Q)
theorem opr_or {X : Cx} {op : Value → Value → Sem Value} {r1 r2 : R2} (h1 : OpR X op r1) (h2 : OpR X op r2) : OpR X op (fun x y H Q => r1 x y H Q ∨ r2 x y H Q) := fun pins s σ H x y v u Q I rx ry h => h.elim (h1 pins s σ H x y v u Q I rx ry) (h2 pins s σ H x y v u Q I rx ry)
theorem op_eqMs {X : Cx} {CP CC CT : Addr} (M : EqF X.prog X.w X.K X.mg X.base CP CC CT) (hr : Room 1 X.A) : OpR X (compareOp .Eq) (rMs X.K CP CC CT id) := by
  obtain ⟨_, _, E1, F1, b1⟩ := M.eP.ex
  obtain ⟨_, _, E2, F2, b2⟩ := M.eC.ex
  obtain ⟨_, _, E3, F3, b3⟩ := M.eT.ex
  exact opr_or (Oq.op_eqI E1 F1 b1 hr) (opr_or (Oq.op_eqI E2 F2 b2 hr) (Oq.op_eqI E3 F3 b3 hr))
theorem op_neMs {X : Cx} {CP CC CT : Addr} (M : EqF X.prog X.w X.K X.mg X.base CP CC CT) (hr : Room 2 X.A) : OpR X (compareOp .NotEq) (rMs X.K CP CC CT Bool.not) := by
  obtain ⟨_, _, E1, F1, b1⟩ := M.eP.ex
  obtain ⟨_, _, E2, F2, b2⟩ := M.eC.ex
  obtain ⟨_, _, E3, F3, b3⟩ := M.eT.ex
  exact opr_or (Oq.op_neI E1 F1 b1 hr) (opr_or (Oq.op_neI E2 F2 b2 hr) (Oq.op_neI E3 F3 b3 hr))
/-- plain values -/
inductive Pl (H : Hp) : V → String → Prop where
  | non : Pl H .non "NoneType"
  | int (i : Int) : Pl H (.int i) "int"
  | bl (b : Bool) : Pl H (.bl b) "bool"
  | str (z : Str) : Pl H (.str z) "str"
  | tup {p : Addr} {xs : List V} (h : H p = some (.tup xs)) : Pl H (.ref p) "tuple"
  | lst {p : Addr} {xs : List V} (h : H p = some (.lst xs)) : Pl H (.ref p) "list"
  | dic {p : Addr} {kvs : List (Key × V)} (h : H p = some (.dK kvs)) : Pl H (.ref p) "dict"
theorem Pl.cv {H : Hp} {y : V} {t : String} {C : Addr} (h : Pl H y t) : Oq.Cv C H y (.type t) ∧ TyX K H y (.type t) ∧ t ∈ plT := by
  cases h with
  | non => exact ⟨.non, .base .non, by decide⟩
  | int i => exact ⟨.int i, .base (.int i), by decide⟩
  | bl b => exact ⟨.bl b, .base (.bl b), by decide⟩
  | str z => exact ⟨.str z, .base (.str z), by decide⟩
  | tup h => exact ⟨.tup h, .base (.tup h), by decide⟩
  | lst h => exact ⟨.lst h, .base (.lst h), by decide⟩
  | dic h => exact ⟨.dic h, .base (.dK h), by decide⟩
theorem ms_plain {CP CC CT m : Addr} {N H : Hp} {z : Str} {key : Int} {kvs : List (Key × V)} {y : V} {t : String} {g : Bool → Bool} {Q : VK} (M : EqF P w K mg base CP CC CT) (hm : Msg CP CC CT N H m z key kvs) (rk : RowOk kvs) (hp : Pl H y t) (q : Q (.bl (g false)) H) : rMs K CP CC CT g (.ref m) y H Q := by
  obtain ⟨n, h | ⟨hz, dx, d, nd, h1, h2⟩⟩ := hm
  · obtain ⟨rfl, _, dx, h1⟩ := h
    obtain ⟨c1, c2, c3⟩ := hp.cv (K := K) (C := CT)
    exact .inr (.inr ⟨m, dx, _, _, rfl, h1, c1, (M.eT.pl t c3).1, m, dx, key, y, rfl, h1, .inr ⟨⟨_, c2, (M.eT.pl t c3).2⟩, false, rfl, q⟩⟩)
  · rcases hz with rfl | rfl
    · obtain ⟨c1, c2, c3⟩ := hp.cv (K := K) (C := CP)
      exact .inl ⟨m, dx, _, _, rfl, h1, c1, (M.eP.pl t c3).1, m, dx, d, key, kvs, y, rfl, h1, h2, rk, .inr ⟨⟨_, c2, (M.eP.pl t c3).2⟩, false, rfl, q⟩⟩
    · obtain ⟨c1, c2, c3⟩ := hp.cv (K := K) (C := CC)
      exact .inr (.inl ⟨m, dx, _, _, rfl, h1, c1, (M.eC.pl t c3).1, m, dx, d, key, kvs, y, rfl, h1, h2, rk, .inr ⟨⟨_, c2, (M.eC.pl t c3).2⟩, false, rfl, q⟩⟩)
theorem EqF.txt {CP CC CT : Addr} (M : EqF P w K mg base CP CC CT) {z : Str} (hz : z ∈ deeds) : TxtC1 K (clsOf CP CC CT z) := by
  rcases List.mem_cons.mp hz with rfl | hz
  · exact M.eP.T
  rcases List.mem_cons.mp hz with rfl | hz
  · exact M.eC.T
  rcases List.mem_cons.mp hz with rfl | hz
  · exact M.eT.T
  cases hz
theorem Msg.ins {CP CC CT : Addr} {N H : Hp} {m : Addr} {z : Str} {key : Int} {kvs : List (Key × V)} (h : Msg CP CC CT N H m z key kvs) : ∃ dx fs, H m = some (.ins (clsOf CP CC CT z) dx fs) := by
  obtain ⟨n, h | ⟨hz, dx, d, nd, h1, h2⟩⟩ := h
  · obtain ⟨rfl, _, dx, h1⟩ := h
    exact ⟨dx, _, h1⟩
  · exact ⟨dx, _, h1⟩
theorem ms_ms {CP CC CT m m2 : Addr} {N N2 H : Hp} {z z2 : Str} {key key2 : Int} {kvs kvs2 : List (Key × V)} {g : Bool → Bool} {Q : VK} (M : EqF P w K mg base CP CC CT) (hm : Msg CP CC CT N H m z key kvs) (hm2 : Msg CP CC CT N2 H m2 z2 key2 kvs2) (rk : RowOk kvs) (rk2 : RowOk kvs2)
    (q : Q (.bl (g (decide (z = z2) && (decide (key = key2) && sameK kvs kvs2)))) H) : rMs K CP CC CT g (.ref m) (.ref m2) H Q := by
  have hz := hm.deed
  have hz2 := hm2.deed
  obtain ⟨nf, kf⟩ := M.nf z hz z2 hz2
  obtain ⟨dx2, fs2, hi⟩ := hm2.ins
  have T2 := M.txt hz2
  have cv : ∀ C, Oq.Cv C H (.ref m2) (.ref (clsOf CP CC CT z2)) := fun C => .ins hi
  have ty : TyX K H (.ref m2) (.ref (clsOf CP CC CT z2)) := .base (.ins hi T2.cl T2.ha T2.hn T2.ht T2.hm)
  by_cases e : z = z2
  · subst e
    rw [decide_eq_true rfl] at q
    obtain ⟨n, h | ⟨hz', dx, d, nd, h1, h2⟩⟩ := hm
    · obtain ⟨rfl, rfl, dx, h1⟩ := h
      obtain ⟨n2, h' | ⟨hz'', _⟩⟩ := hm2
      · obtain ⟨_, rfl, dq, h1'⟩ := h'
        have e1 : sameK [] [] = true := rfl
        rw [e1, Bool.and_true, Bool.true_and] at q
        exact .inr (.inr ⟨m, dx, _, _, rfl, h1, cv CT, nf, m, dx, key, _, rfl, h1, .inl ⟨m2, dq, key2, rfl, h1', _, rfl, q⟩⟩)
      · rcases hz'' with h | h <;> exact absurd h (by decide)
    · obtain ⟨n2, h' | ⟨hz'', dq, dd, _, h1', h2'⟩⟩ := hm2
      · rw [h'.1] at hz'
        rcases hz' with h | h <;> exact absurd h (by decide)
      · rw [Bool.true_and] at q
        rcases hz' with rfl | rfl
        · exact .inl ⟨m, dx, _, _, rfl, h1, cv CP, nf, m, dx, d, key, kvs, _, rfl, h1, h2, rk, .inl ⟨m2, dq, dd, key2, kvs2, rfl, h1', h2', rk2, _, rfl, q⟩⟩
        · exact .inr (.inl ⟨m, dx, _, _, rfl, h1, cv CC, nf, m, dx, d, key, kvs, _, rfl, h1, h2, rk, .inl ⟨m2, dq, dd, key2, kvs2, rfl, h1', h2', rk2, _, rfl, q⟩⟩)
  · rw [decide_eq_false e, Bool.false_and] at q
    have kf2 := kf e
    obtain ⟨n, h | ⟨hz', dx, d, nd, h1, h2⟩⟩ := hm
    · obtain ⟨rfl, _, dx, h1⟩ := h
      exact .inr (.inr ⟨m, dx, _, _, rfl, h1, cv CT, nf, m, dx, key, _, rfl, h1, .inr ⟨⟨_, ty, kf2⟩, false, rfl, q⟩⟩)
    · rcases hz' with rfl | rfl
      · exact .inl ⟨m, dx, _, _, rfl, h1, cv CP, nf, m, dx, d, key, kvs, _, rfl, h1, h2, rk, .inr ⟨⟨_, ty, kf2⟩, false, rfl, q⟩⟩
      · exact .inr (.inl ⟨m, dx, _, _, rfl, h1, cv CC, nf, m, dx, d, key, kvs, _, rfl, h1, h2, rk, .inr ⟨⟨_, ty, kf2⟩, false, rfl, q⟩⟩)
theorem scIsInteger : FnScope ["value"] ["value"] (defScope sIsInteger) := ⟨rfl, rfl, rfl, by decide +kernel, rfl, by decide +kernel, by decide +kernel⟩
theorem ok_isInteger {f : Addr} {fd : FuncData} (F : FnP K "_law_is_integer" sIsInteger f fd) (T : TxtQ mg) : FnOk P w K mg base CX0 1 f fd ["value"] (spIsInteger K) := by
  refine F.ok scIsInteger (fun vs H Q E h => ?_) (fun cdv A outer s H vs Q E hr h => ?_)
  · obtain ⟨v, b, rfl, _⟩ := h
    rfl
  · obtain ⟨v, b, rfl, hv, k⟩ := h
    refine ⟨_, PSs.nox (pss_one (ps_ret (pe_and (pe_callB call_isi (by rfl) T.isi (by decide +kernel) (pa_cons (pv 0) (pa_cons (pe_bltn (v := .ty "int") (by rfl) T.int (by decide +kernel) rfl) pa_nil)))
      (pe_one (pe_not (pe_callB call_isi (by rfl) T.isi (by decide +kernel) (pa_cons (pv 0) (pa_cons (pe_bltn (v := .ty "bool") (by rfl) T.bool (by decide +kernel) rfl) pa_nil)))))))), ?_⟩
    rcases hv with ⟨rfl, i, rfl⟩ | ⟨rfl, ⟨c, rfl⟩ | ⟨t, ht, kt⟩⟩
    · exact ⟨_, rfl, _, _, _, _, true, rfl, .ty _, ty_int i, kit_ty (by decide +kernel), true, rfl, iteT ⟨_, rfl, _, _, _, _, false, rfl, .ty _, ty_int i, kit_ty (by decide +kernel), false, rfl, k⟩⟩
    · exact ⟨_, rfl, _, _, _, _, true, rfl, .ty _, ty_bl c, kit_ty (by decide +kernel), true, rfl, iteT ⟨_, rfl, _, _, _, _, true, rfl, .ty _, ty_bl c, kit_ty (by decide +kernel), true, rfl, k⟩⟩
    · exact ⟨_, rfl, _, _, _, _, false, rfl, .ty _, ht, kit_ty kt, false, rfl, iteF k⟩
/-! two rows with the same cells -/
structure TxtR (mg : Str → Option Value) : Prop where
  P : TxtQ mg
  sorted : mg "sorted" = none
def RowEq (kvs kvs2 : List (Key × V)) : Prop := RowOk kvs ∧ RowOk kvs2 ∧ (kvs.map (·.1)).Perm (kvs2.map (·.1)) ∧ ∀ p ∈ kvs2, valV kvs p.1 = some p.2
theorem RowEq.refl {kvs : List (Key × V)} (h : RowOk kvs) : RowEq kvs kvs := ⟨h, h, List.Perm.refl _, valV_mem h.nodup⟩
def spIsRow : Sp := fun vs H Q _ => ∃ (v1 v2 : V), vs = [v1, v2] ∧ ((v1 = .non ∧ v2 = .non) ∨ ∃ d1 d2 kvs1 kvs2, v1 = .ref d1 ∧ v2 = .ref d2 ∧ H d1 = some (.dK kvs1) ∧ H d2 = some (.dK kvs2) ∧ RowEq kvs1 kvs2) ∧ ∀ G, Same H G → Q (.bl true) G
theorem keys_strs {kvs : List (Key × V)} {ks : List Str} (h : kvs.map (·.1) = ks.map Sum.inr) : (kvs.map fun kv => kV kv.1) = ks.map V.str := by
  have e := congrArg (List.map kV) h
  rw [List.map_map, List.map_map] at e
  exact e
theorem dp_strs {H : Hp} : ∀ ks : List Str, DpAll K H (ks.map V.str) (ks.map PyData.str)
  | [] => .nil
  | z :: r => .cons (.str z) (dp_strs r)
theorem perm_inr {xs ys : List Str} (h : (xs.map (Sum.inr : Str → Key)).Perm (ys.map Sum.inr)) : xs.Perm ys := by
  have z := h.filterMap fun k : Key => match k with
    | .inr z => some z
    | .inl _ => none
  rw [List.filterMap_map, List.filterMap_map] at z
  have e : ∀ l : List Str, l.filterMap ((fun k : Key => match k with
    | .inr z => some z
    | .inl _ => none) ∘ Sum.inr) = l := fun l => by
    induction l with
    | nil => rfl
    | cons x r ih =>
      show x :: _ = _
      rw [ih]
  rw [e, e] at z
  exact z
theorem scIsRow : FnScope ["told", "due", "name"] ["told", "due"] (defScope sIsRow) := ⟨rfl, rfl, rfl, by decide +kernel, rfl, by decide +kernel, by decide +kernel⟩
theorem ok_isRow {f : Addr} {fd : FuncData} (F : FnP K "_law_is_row" sIsRow f fd) (T : TxtR mg) (cI : Cal P w K mg base CX0 "_law_is_integer" 1 ["value"] (spIsInteger K)) : FnOk P w K mg base CX0 2 f fd ["told", "due"] spIsRow := by
  refine F.ok scIsRow (fun vs H Q E h => ?_) (fun cdv A outer s H vs Q E hr h => ?_)
  · obtain ⟨v1, v2, rfl, _⟩ := h
    rfl
  · obtain ⟨v1, v2, rfl, hv, k⟩ := h
    have nd := scIsRow.nd
    have hu := hu_of hr
    refine ⟨_, PSs.nox (pss_cons (ps_if (PW.pt (pw_or (pt_cmpR op_isN (pv 1) pe_non (nomark _)) (pw_or1 (pt_cmpR op_isN (pv 0) pe_non (nomark _))))) (pss_one (ps_ret (pe_and (pe_cmpR op_isN (pv 0) pe_non (nomark _)) (pe_one (pe_cmpR op_isN (pv 1) pe_non (nomark _)))))) pss_nil)
      (pss_cons (ps_if (PW.pt (pw_or (pt_not (pt_val (pe_callB call_isi (by rfl) T.P.isi (by decide +kernel) (pa_cons (pv 0) (pa_cons (pe_bltn (v := .ty "dict") (by rfl) T.P.dict (by decide +kernel) rfl) pa_nil))))) (pw_or1 (pt_cmpR (op_neD hr.units)
          (pe_callB cr_sortedS (by rfl) T.sorted (by decide +kernel) (pa_cons (Lk.pe_listKeys rfl (pv 0) (by rfl) T.P.list (by decide +kernel)) pa_nil)) (pe_callB cr_sortedS (by rfl) T.sorted (by decide +kernel) (pa_cons (Lk.pe_listKeys rfl (pv 1) (by rfl) T.P.list (by decide +kernel)) pa_nil)) (nomark _))))) (pss_one (ps_ret pe_bl)) pss_nil)
      (pss_cons (ps_lock (ps_for PassesOwn.never rfl (pi_keys (pv 1)) (pg_name (i := 2) nd rfl (Or.inl rfl))
        (pss_one (ps_if (PW.pt (pw_or (PW.pt (pw_and (pt_cmpR op_notN (pe_dget hu (pv 0) (pv 2) (fun _ _ => rfl)) pe_non (nomark _)) (pw_and1 (pt_not (pt_val (pe_cal cI hr (pa_cons (pe_dget hu (pv 0) (pv 2) (fun _ _ => rfl)) pa_nil)))))))
          (pw_or1 (pt_cmpR op_ne (pe_dget hu (pv 0) (pv 2) (fun _ _ => rfl)) (pe_dget hu (pv 1) (pv 2) (fun _ _ => rfl)) (nomark _))))) (pss_one (ps_ret pe_bl)) pss_nil))))
      (pss_one (ps_ret pe_bl))))), ?_⟩
    rcases hv with ⟨rfl, rfl⟩ | ⟨d1, d2, kvs1, kvs2, rfl, rfl, h1, h2, ⟨r1, r2, pm, vl⟩⟩
    · refine ⟨_, rfl, rfl, _, rfl, it_bt rfl ?_⟩
      exact ⟨_, rfl, rfl, _, rfl, it_bt rfl ⟨_, rfl, rfl, k H (Same.refl H)⟩⟩
    obtain ⟨⟨ks1, e1, n1, w1⟩, i1, l1⟩ := r1
    obtain ⟨⟨ks2, e2, n2, w2⟩, i2, l2⟩ := r2
    refine ⟨_, rfl, rfl, _, rfl, it_bf rfl ?_⟩
    refine ⟨_, rfl, rfl, _, rfl, it_bf rfl ?_⟩
    dsimp only [tNext]
    refine sq_if1 (fun b G => Same H G ∧ b = false) (fun Q q => ?_) ?_ ?_
    · refine ⟨_, rfl, _, _, _, _, true, rfl, .ty _, .base (.dK h1), kit_ty (by decide +kernel), true, rfl, it_bf rfl ?_⟩
      refine ⟨_, rfl, d1, kvs1, rfl, h1, fun p1 np1 => ⟨p1, ks1, rfl, SqL.of (by rw [upd_same, keys_strs e1]), ?_, fun ys1 q1 pm1 so1 nq1 => ?_⟩⟩
      · have := congrArg List.length e1
        simp only [List.length_map] at this
        omega
      have s1 := (Lw.Same.new (o := .lst (kvs1.map fun kv => kV kv.1)) (Same.refl H) np1).trans (Lw.Same.new (o := .lst (ys1.map V.str)) (Same.refl _) nq1)
      refine ⟨_, rfl, d2, kvs2, rfl, s1 _ _ h2, fun p2 np2 => ⟨p2, ks2, rfl, SqL.of (by rw [upd_same, keys_strs e2]), ?_, fun ys2 q2 pm2 so2 nq2 => ?_⟩⟩
      · have := congrArg List.length e2
        simp only [List.length_map] at this
        omega
      have s2 := (Lw.Same.new (o := .lst (kvs2.map fun kv => kV kv.1)) (Same.refl _) np2).trans (Lw.Same.new (o := .lst (ys2.map V.str)) (Same.refl _) nq2)
      have pk : ks1.Perm ks2 := by
        rw [e1, e2] at pm
        exact perm_inr pm
      have ey : ys1 = ys2 := sorted_one so1 so2 (pm1.trans (pk.trans pm2.symm))
      subst ey
      have hw : ∀ z ∈ ys1, IsWord z := fun z hz => w1 z (pm1.mem_iff.mp hz)
      refine ⟨.list (ys1.map PyData.str), .list (ys1.map PyData.str), .lst (SqL.of (s2 _ _ upd_same)) (dp_strs _), .lst (SqL.of upd_same) (dp_strs _), shaped_strs _ hw, shaped_strs _ hw, _, rfl, ?_⟩
      rw [eqv_strs hw]
      exact q _ _ ⟨s1.trans s2, rfl⟩
    · rintro G ⟨_, h⟩
      cases h
    rintro G ⟨sG, _⟩
    have g1 := sG _ _ h1
    have g2 := sG _ _ h2
    refine ⟨d2, _, g2, trivial, fun od => ?_⟩
    have hback : Same H (upd (upd G d2 (.frz od (.dK kvs2))) d2 (.dK kvs2)) := fun b o h => by
      by_cases e : b = d2
      · subst e
        rw [h2] at h
        cases h
        exact upd_same
      · rw [upd_ne e, upd_ne e]
        exact sG b o h
    have hg1 : Rd (upd G d2 (.frz od (.dK kvs2))) d1 (.dK kvs1) := by
      by_cases e : d1 = d2
      · subst e
        rw [h1] at h2
        cases h2
        exact .inr ⟨od, upd_same⟩
      · exact .inl (by rw [upd_ne e]; exact g1)
    have hg2 : Rd (upd G d2 (.frz od (.dK kvs2))) d2 (.dK kvs2) := .inr ⟨od, upd_same⟩
    have hfz : (upd G d2 (.frz od (.dK kvs2))) d2 = some (.frz od (.dK kvs2)) := upd_same
    refine ⟨_, rfl, d2, od, rfl, .inl ⟨kvs2, upd_same, ?_⟩⟩
    generalize upd G d2 (.frz od (.dK kvs2)) = G2 at hback hg1 hg2 hfz ⊢
    refine for_it walk_keys (fun i σ G' => G2 = G' ∧ ∃ v : Option V, σ = [some (.ref d1), some (.ref d2), v]) ⟨rfl, _, rfl⟩ (fun i σ G' _ ⟨e, _⟩ => e ▸ hfz) ?_ ?_
    · rintro i x σ G' G'' hi ⟨rfl, v0, rfl⟩ ⟨rfl, key, v, hkv, rfl⟩
      have hm := List.mem_of_getElem? hkv
      have hv1 : valV kvs1 key = some v := vl (key, v) hm
      have hv2 : valV kvs2 key = some v := valV_mem (RowOk.nodup ⟨⟨ks2, e2, n2, w2⟩, i2, l2⟩) (key, v) hm
      have hN : IntN v := i2 (key, v) hm
      have D1 : DGet G'' d1 (kV key) (some v) := .inl ⟨kvs1, key, hg1, rfl, hv1.symm⟩
      have D2 : DGet G'' d2 (kV key) (some v) := .inl ⟨kvs2, key, hg2, rfl, hv2.symm⟩
      refine g_name ?_
      have last : (∀ A B : Prop, B → if (!decide (v = v)) = true then A else B) := fun A B b => it_bf (by simp) b
      refine ⟨_, rfl, _, rfl, d1, v, rfl, D1, rfl, _, rfl, ?_⟩
      rcases hN with ⟨z, rfl⟩ | rfl
      · refine it_bt rfl ⟨_, rfl, _, rfl, d1, _, rfl, D1, _, true, rfl, .inl ⟨rfl, z, rfl⟩, _, rfl, ?_⟩
        refine it_bf rfl ?_
        exact ⟨_, rfl, _, rfl, d1, _, rfl, D1, _, rfl, _, rfl, d2, _, rfl, D2, rfl, _, rfl, it_bf (by simp) ⟨rfl, _, rfl⟩⟩
      · refine it_bf rfl ?_
        exact ⟨_, rfl, _, rfl, d1, _, rfl, D1, _, rfl, _, rfl, d2, _, rfl, D2, rfl, _, rfl, it_bf (by simp) ⟨rfl, _, rfl⟩⟩
    · rintro σ G' ⟨rfl, v0, rfl⟩
      exact ⟨hfz, k _ hback⟩
end
end Lw

set_option Elab.async false
set_option linter.all false
set_option maxRecDepth 100000
set_option maxHeartbeats 2000000
namespace Ci
open PySem PySem.Spec PyProof.Rows L2
/-! list(o), o an instance whose own __iter__ gives a list's iterator and that has an own __len__ -/
structure ItL (K : PySem.W.Frag) (C fi fl : Addr) : Prop where
  it : PySem.W.findIn K (.ref C) "__iter__" = some (some (.ref fi))
  itF : PySem.W.isFn K (.ref fi) = true
  ln : PySem.W.findIn K (.ref C) "__len__" = some (some (.ref fl))
  lnF : PySem.W.isFn K (.ref fl) = true
section
variable {X : Cx} {pins : List (Addr × Obj)} {σ : L2.St} {H : Hp} {s : Shared} {A : Around} {E : Value → Shared → Prop} {it l : Addr} {i : Nat} {zs : List V}
theorem next_it {Q : Option Value → Shared → Prop} (I : Inv X pins σ H s) (ei : H it = some (ItO l it i)) (el : SqL X.K H l zs) {v : V} (hv : zs[i]? = some v)
    (fin : ∀ u s', Inv X pins σ (upd H it (ItO l it (i + 1))) s' → RelV v u → Q (some u) s') : wpAny (model X.prog X.w) A (pyNext (.ref it)) Q E s := by
  obtain ⟨its, rv, pl, hz⟩ := I.list el
  have hT : s.TypeIs (.ref it) "list_iterator" := ⟨_, itO_get I ei, rfl⟩
  have mu : Mut (H it) := by rw [ei]; exact True.intro
  obtain ⟨w', hw, rw'⟩ := rv.get hv
  unfold pyNext
  refine wpAny_bind (wpAny_attempt (wpAny_callSpecial?_slot (name := Str.ofString "__next__") hT slot_listiter_next (wpAny_call_entry slot_listiter_next hT entry_listiter_next (GNX.next_item (itO_get I ei) pl.isList (by rw [List.getElem?_toArray]; exact hw) fun h' e' sb => ?_) (args_listiter_next _))))
  exact wpAny_pure (fin _ _ (I.write (x := it) (e := it) (t' := s.toks) mu (.inl rfl) (fun b o nb z => (sb.2 b nb).trans z) ⟨_, e'⟩ (itO_ok e')) rw')
theorem next_no {Q : Option Value → Shared → Prop} (hh : A.handled = none) (I : Inv X pins σ H s) (ei : H it = some (ItO l it i)) (el : SqL X.K H l zs) (hv : zs[i]? = none)
    (fin : ∀ s', Inv X pins σ (upd H it (ItE it i)) s' → Q none s') : wpAny (model X.prog X.w) A (pyNext (.ref it)) Q E s := by
  obtain ⟨its, rv, pl, hz⟩ := I.list el
  have hT : s.TypeIs (.ref it) "list_iterator" := ⟨_, itO_get I ei, rfl⟩
  have mu : Mut (H it) := by rw [ei]; exact True.intro
  unfold pyNext
  refine wpAny_bind (wpAny_attempt (wpAny_callSpecial?_slot (name := Str.ofString "__next__") hT slot_listiter_next (wpAny_call_entry slot_listiter_next hT entry_listiter_next (GNX.next_end (A := A) hh (itO_get I ei) pl.isList (by rw [List.getElem?_toArray]; exact rv.none_of hv) fun h1 h' e vs e1 sb k ne he' hv2 => ?_) (args_listiter_next _))))
  have I2 : Inv X pins σ (upd H it (ItE it i)) { s with heap := h1 } := I.write (x := it) (e := it) (t' := s.toks) mu (.inl rfl) (fun b o nb z => (sb.2 b nb).trans z) ⟨_, e1⟩ (itE_ok e1)
  exact wpAny_bind (wpAny_isInstance (T := "StopIteration") (b := true) ⟨_, he', rfl⟩ isSubtype_stop (wpAny_pure (fin _ (I2.kept (t' := s.toks) k))))
theorem loop_it {A1 : Around} {Rs : Result → Shared → Prop} {q : Addr} (hh : A1.in1.handled = none) (ql : q ≠ l) (few : zs.length < sizeLine) : ∀ (m i : Nat) (H : Hp) (s : Shared), zs.length - i = m → i ≤ zs.length → Inv X pins σ H s → H it = some (ItO l it i) → H l = some (.lst zs) → H q = some (.lst (zs.take i)) →
    (∀ H' s', Inv X pins σ H' s' → H' q = some (.lst zs) → (∀ b o, b ≠ q → b ≠ it → H b = some o → H' b = some o) → Rs (.ok (.ret .none)) s') → codeAny (model X.prog X.w) A1 (.builtin "list.extend.loop" ⟨[.ref q, .ref it, .none], []⟩) Rs s := by
  intro m
  induction m with
  | zero =>
    intro i H s hm hi I ei el hq done
    have e : i = zs.length := by omega
    refine codeAny_builtin PySem.F.entry_extend_loop ?_
    rw [Around.under_plainId PySem.F.plain_extend_loop _]
    show wpAny _ A1.in1 (pyNext (.ref it) >>= _) _ _ s
    have nq : q ≠ it := fun z => by
      subst z
      rw [ei] at hq
      cases hq
    refine wpAny_bind (next_no hh I ei (SqL.of el) (List.getElem?_eq_none (by omega)) fun s' I' => ?_)
    refine wpAny_pure (done _ s' I' ?_ fun b o n1 n2 h => ?_)
    · rw [upd_ne nq, hq, e, List.take_length]
    · rw [upd_ne n2]
      exact h
  | succ m ih =>
    intro i H s hm hi I ei el hq done
    have hlt : i < zs.length := by omega
    have hv : zs[i]? = some zs[i] := List.getElem?_eq_getElem hlt
    refine codeAny_builtin PySem.F.entry_extend_loop ?_
    rw [Around.under_plainId PySem.F.plain_extend_loop _]
    show wpAny _ A1.in1 (pyNext (.ref it) >>= _) _ _ s
    have nq : q ≠ it := fun z => by
      subst z
      rw [ei] at hq
      cases hq
    refine wpAny_bind (next_it I ei (SqL.of el) hv fun u s' I' rv => ?_)
    show wpAny _ A1.in1 (updateSeq q (·.push u) >>= _) _ _ _
    have hq' : (upd H it (ItO l it (i + 1))) q = some (.lst (zs.take i)) := by rw [upd_ne nq]; exact hq
    obtain ⟨z, its, k, r2, hl, e⟩ := I'.lstM hq'
    have hl2 : its.length = (zs.take i).length := hl.symm
    rw [List.length_take] at hl2
    refine wpAny_bind (wpAny_updateSeq e rfl (wpAny_pure ⟨plainId_quiet PySem.F.plain_extend_loop _, ?_⟩) (by rw [List.size_toArray]; omega) (by show (its.toArray.push u).size ≤ sizeLine + 1; rw [Array.size_push, List.size_toArray]; omega))
    have I3 := I'.lset (f := (·.push u)) (its' := its ++ [u]) (ys := zs.take i ++ [zs[i]]) (t' := s'.toks) hq' e (by simp) (r2.append (.cons rv .nil)) (by rw [List.length_append, List.length_singleton, List.length_take]; omega)
    have tk : zs.take (i + 1) = zs.take i ++ [zs[i]] := by rw [List.take_add_one, hv]; rfl
    have ei3 : (upd (upd H it (ItO l it (i + 1))) q (.lst (zs.take i ++ [zs[i]]))) it = some (ItO l it (i + 1)) := by rw [upd_ne nq.symm, upd_same]
    have lit : l ≠ it := fun z => by
      subst z
      rw [ei] at el
      cases el
    refine ih (i + 1) _ _ (by omega) hlt I3 ei3 ?_ (by rw [upd_same, tk]) fun H' s2 I2 h2 kp => done H' s2 I2 h2 fun b o n1 n2 h => kp b o n1 n2 (by rw [upd_ne n1, upd_ne n2]; exact h)
    rw [upd_ne ql.symm, upd_ne lit]
    exact el
/-- the length, told by an own __len__ -/
theorem hint {k : Nat} {fl C a : Addr} {fd : FuncData} {ps : List PySem.Str} {sp : Sp} {dx : Addr} {fs : List (PySem.Str × V)} {fi : Addr} {Q : Bool → Shared → Prop} (W : ItL X.K C fi fl) (fr : A.in1.frames = some X.stack) (room : Room k A.in1) (F : FnOk X.prog X.w X.K X.mg X.base CX0 k fl fd ps sp) (bt : Binds X.K fd ps [])
    (I : Inv X pins σ H s) (ha : H a = some (.ins C dx fs)) (pr : sp [.ref a] H (fun v G => ∃ n : Nat, n ≤ 100000 ∧ v = .int (n : Nat) ∧ G = H) E0) (fin : ∀ b s', Inv X pins σ H s' → Q b s') :
    wpAny (model X.prog X.w) A (Builtin.List.listLengthHint (.ref a)) Q E s := by
  obtain ⟨mA, J, _⟩ := ins_get I.hok ha
  obtain ⟨od, J, _⟩ := J.look
  obtain ⟨m0, hF⟩ := I.fr
  unfold Builtin.List.listLengthHint
  refine wpAny_bind (wpAny_bind (J.type.here ((PySem.W.looks_findIn I.kIn W.ln).here ?_)))
  refine PySem.W.KFB.if_not rfl ?_
  refine PySem.W.KFB.if_so rfl ?_
  refine wpAny_bind (wpAny_rule ?_)
  refine wpAny_bind (wpAny_attempt (PySem.W.len_K hF I.ok.mod.kin J W.ln W.lnF ?_))
  refine wpAny_mono (Oe.own_call (A := A.in1) fr room F bt (I.tok _) (vs := [.ref a]) (.cons (show RelV (.ref a) (Value.ref a) from rfl) .nil) pr) (fun u s' hu => ?_) fun _ _ z => z
  obtain ⟨v, G, I', rv, n, hn, rfl, rfl⟩ := hu
  obtain ⟨t, rfl⟩ := rv
  refine ⟨⟨by omega, by omega⟩, ?_⟩
  dsimp only
  refine wpAny_bind (m := asInt? (.int (n : Nat) _)) (wpAny_pure ?_)
  dsimp only
  have short : Builtin.List.listTooLong ((n : Nat) : Int).toNat = false := by
    unfold Builtin.List.listTooLong
    have h9 : sizeLine = 16777216 := by decide
    rw [Int.toNat_natCast]
    exact decide_eq_false (by omega)
  rw [if_neg (by rw [short]; exact Bool.false_ne_true)]
  exact wpAny_pure (fin _ _ (I'.tok _))
/-- what list(o) asks and gives -/
def rListI (C : Addr) (spI spL : Sp) : List V → Hp → VK → Prop := fun xs H Q => ∃ (a dx : Addr) (fs : List (PySem.Str × V)) (l : Addr) (zs : List V), xs = [V.ref a] ∧ H a = some (.ins C dx fs) ∧ H l = some (.lst zs) ∧ zs.length ≤ 100000 ∧
  (∀ G, (∀ b o, H b = some o → G b = some o) → spI [.ref a] G (fun v G' => ∃ it, v = .ref it ∧ G it = none ∧ G' = upd G it (ItO l it 0)) E0) ∧
  (∀ G, (∀ b o, H b = some o → G b = some o) → spL [.ref a] G (fun v G' => ∃ n : Nat, n ≤ 100000 ∧ v = .int (n : Nat) ∧ G' = G) E0) ∧
  ∀ q G, H q = none → (∀ b o, H b = some o → G b = some o) → G q = some (.lst zs) → Q (.ref q) G
theorem call_listI {k : Nat} {C fi fl : Addr} {fdI fdL : FuncData} {psI psL : List PySem.Str} {spI spL : Sp} (hc : X.calm = true) (W : ItL X.K C fi fl) (FI : FnOk X.prog X.w X.K X.mg X.base CX0 k fi fdI psI spI) (bI : Binds X.K fdI psI []) (FL : FnOk X.prog X.w X.K X.mg X.base CX0 k fl fdL psL spL) (bL : Binds X.K fdL psL []) (hr : Room (k + 3) X.A) : CallR X (.type "list") (rListI C spI spL) := by
  intro pins s σ H xs us Q I rv h
  obtain ⟨a, dx, fs, l, zs, rfl, ha, hl, few, pI, pL, fin⟩ := h
  obtain ⟨u, rfl, ru⟩ := rv.one
  cases ru
  have sb2 : Sub X (k + 1) X.A.in1.in1 := Sub.in1 (Sub.in1 (⟨hr, rfl⟩ : Sub X (k + 3) X.A))
  have sb3 : Sub X k X.A.in1.in1.in1 := Sub.in1 sb2
  refine callType_codes (Q₁ := fun obj s₁ => obj = .ref s.heap.objs.size ∧ s₁ = { s with heap := s.heap.push { cls := .type "list", data := .seq #[] } }) PySem.F.called_list (PySem.F.typeCall_list_1 _) PySem.F.entry_list_init
    (code_list_new _ ⟨rfl, rfl⟩) fun obj s₁ h₁ => ?_
  obtain ⟨rfl, rfl⟩ := h₁
  have hS : (s.heap.push { cls := .type "list", data := .seq #[] }).get? s.heap.objs.size = some { cls := .type "list", data := .seq #[] } := Heap.get?_push_size _ rfl
  refine ⟨⟨_, hS, rfl⟩, PySem.F.args_list_init_2 _ _, ?_⟩
  have fr : H s.heap.objs.size = none := I.hok.fresh (Nat.le_refl _)
  have I1 : Inv X pins σ (upd H s.heap.objs.size (.lst [])) { s with heap := s.heap.push { cls := .type "list", data := .seq #[] } } := I.lnew (its := []) (t' := s.toks) .nil (Nat.zero_le _)
  show wpAny _ _ (do let old ← Builtin.List.listItems (.ref s.heap.objs.size); Builtin.List.listUpdate (.ref s.heap.objs.size) (fun _ => #[]); letGo old.toList.reverse; Builtin.List.listExtendWith (.ref s.heap.objs.size) (.ref a) .none) _ _ _
  refine wpAny_bind ?_
  unfold Builtin.List.listItems
  refine wpAny_bind (wpAny_seqItems hS rfl (wpAny_pure ?_))
  show wpAny _ _ (updateSeq s.heap.objs.size (fun _ => #[]) >>= fun _ => letGo (#[] : Array Value).toList.reverse >>= fun _ => Builtin.List.listExtendWith (.ref s.heap.objs.size) (.ref a) .none) _ _ _
  refine wpAny_bind (wpAny_updateSeq hS rfl ?_)
  have I2 := I1.lset (f := fun _ => #[]) (its := []) (its' := []) (ys := []) (t' := s.toks) upd_same hS rfl .nil (Nat.zero_le _)
  rw [upd_upd] at I2
  refine wpAny_bind (wpAny_letGo ?_)
  generalize s.heap.objs.size = q at I2 fr ⊢
  have ha2 : upd H q (.lst []) a = some (.ins C dx fs) := by rw [upd_ne (ne_of_none ha fr)]; exact ha
  have hne : q ≠ a := (ne_of_none ha fr).symm
  have hql : q ≠ l := (ne_of_none hl fr).symm
  have kq : ∀ b o, H b = some o → (upd H q (.lst [])) b = some o := fun b o e => by rw [upd_ne (ne_of_none e fr)]; exact e
  have hq : (upd H q (.lst [])) q = some (.lst []) := upd_same
  have hl2 := kq _ _ hl
  generalize upd H q (.lst []) = G at I2 ha2 kq hq hl2
  obtain ⟨mA, J, _⟩ := ins_get I2.hok ha2
  obtain ⟨od, J, _⟩ := J.look
  obtain ⟨m0, hF⟩ := I2.fr
  unfold Builtin.List.listExtendWith
  refine wpAny_bind (J.type.here ?_)
  have h1 : Builtin.List.listSameRef (.ref q) (.ref a) = false := by simp [Builtin.List.listSameRef, hne]
  have h2 : (Value.ref C == Value.type "list") = false := rfl
  have h3 : (Value.ref C == Value.type "tuple") = false := rfl
  simp only [h1, h2, h3, Bool.or_false, Bool.false_eq_true, if_false]
  refine wpAny_bind (PySem.W.owit_iter hF I2.ok.mod.kin J W.it W.itF ?_)
  refine wpAny_mono (Oe.own_call (A := X.A.in1.in1) (sb2.fr.trans I2.ok.frames) (sb2.room.mono (Nat.le_succ k)) FI bI I2 (vs := [.ref a]) (.cons (show RelV (.ref a) (Value.ref a) from rfl) .nil) (pI G kq)) (fun u s' hu => ?_) fun _ _ z => z
  obtain ⟨v, G', I3, rv, itx, rfl, nit, rfl⟩ := hu
  obtain rfl : u = Value.ref itx := rv
  have ei : (upd G itx (ItO l itx 0)) itx = some (ItO l itx 0) := upd_same
  have kt : ∀ b o, G b = some o → (upd G itx (ItO l itx 0)) b = some o := fun b o e => by rw [upd_ne (ne_of_none e nit)]; exact e
  have ha3 := kt _ _ ha2
  have hl3 := kt _ _ hl2
  have hq3 := kt _ _ hq
  generalize upd G itx (ItO l itx 0) = G3 at I3 ei kt ha3 hl3 hq3
  unfold PySem.W.OwitIt
  refine wpAny_specialOf (name := Str.ofString "__next__") ⟨_, itO_get I3 ei, rfl⟩ slot_listiter_next.lookup ?_
  dsimp only
  have h9 : sizeLine = 16777216 := by decide
  refine wpAny_bind (wpAny_holding (hint (A := X.A.in1.in1) W (sb3.fr.trans I3.ok.frames) sb3.room FL bL I3 ha3 (pL G3 fun b o e => kt _ _ (kq _ _ e)) fun b s4 I4 => ?_))
  have done : ∀ s5, Inv X pins σ G3 s5 → codeAny (model X.prog X.w) X.A.in1 (.builtin "list.extend.loop" ⟨[.ref q, .ref itx, .none], []⟩) (wants (fun r s₂ => r = .none ∧ EP X pins σ Q (.ref q) s₂) X.xe) s5 := fun s5 I5 =>
    loop_it (A1 := X.A.in1) (show X.A.in1.in1.handled = none from I.ok.hd hc) hql (by omega) _ 0 G3 s5 rfl (Nat.zero_le _) I5 ei hl3 hq3 fun H' s' I' h' kp => ⟨rfl, .ref q, H', I', rfl, fin q H' fr (fun b o e => kp b o (ne_of_none e fr) (ne_of_none (kq _ _ e) nit) (kt _ _ (kq _ _ e))) h'⟩
  refine wpAny_ite_split (fun _ => ?_) (fun _ => wpAny_pure ⟨plainId_quiet PySem.F.plain_extend_loop _, done _ I4⟩)
  obtain ⟨z, its, kk, r3, hlen3, e3⟩ := I4.lstM hq3
  cases r3
  refine wpAny_bind (wpAny_rule ?_)
  refine wpAny_bind ?_
  show wpAny _ _ (updateSeq q (·.push .none) >>= fun _ => updateSeq q (·.pop)) _ _ _
  refine wpAny_bind (wpAny_updateSeq e3 rfl ?_)
  have J2 := I4.lset (f := (·.push Value.none)) (its' := [Value.none]) (ys := [.non]) (t' := s4.toks) hq3 e3 (by simp) (.cons rfl .nil) (by rw [List.length_singleton, sizeLine_eq]; decide)
  obtain ⟨z4, its4, k4, r4, hl4, e4⟩ := J2.lstM upd_same
  obtain ⟨u4, rfl, ru4⟩ := r4.one
  refine wpAny_updateSeq e4 rfl ?_ (by show 1 ≤ sizeLine; rw [sizeLine_eq]; decide) (by show 0 ≤ sizeLine + 1; exact Nat.zero_le _)
  refine wpAny_pure ⟨plainId_quiet PySem.F.plain_extend_loop _, done _ ?_⟩
  have J3 := J2.lset (f := (·.pop)) (its := [u4]) (its' := []) (ys := []) (t' := s4.toks) upd_same e4 (by rfl) .nil (Nat.zero_le _)
  rw [upd_upd] at J3
  have hH : upd G3 q (.lst []) = G3 := by
    funext b
    by_cases hb : b = q
    · rw [hb, upd_same, hq3]
    · rw [upd_ne hb]
  rw [hH] at J3
  exact J3
end
end Ci

set_option Elab.async false
set_option linter.all false
set_option maxRecDepth 100000
set_option maxHeartbeats 40000000
namespace Lw
open PySem PySem.Spec PyProof.Rows L2
abbrev sIterC : Stmt := inClass (top 23) 6
abbrev sLenC : Stmt := inClass (top 23) 7
section
variable {P : Program} {w : World} {K : PySem.W.Frag} {mg : Str → Option Value} {base : Heap}
/-! list(copy) -/
def spIterC (CY : Addr) : Sp := fun vs H Q _ => ∃ (p dx l : Addr) (fs : List (Str × V)) (zs : List V), vs = [.ref p] ∧ H p = some (.ins CY dx fs) ∧ fs.lookup ("_keys" : Str) = some (.ref l) ∧ H l = some (.lst zs) ∧ ∀ it, H it = none → Q (.ref it) (upd H it (ItO l it 0))
theorem scIterC : FnScope ["self"] ["self"] (defScope sIterC) := ⟨rfl, rfl, rfl, by decide +kernel, rfl, by decide +kernel, by decide +kernel⟩
theorem ok_iterC {CY f : Addr} {fd : FuncData} (F : MethD K "__iter__" "Copy.__iter__" sIterC f fd) (T : TxtY K CY) (hI : mg "iter" = none) : FnOk P w K mg base CX0 1 f fd ["self"] (spIterC CY) := by
  refine F.ok scIterC (fun vs H Q E h => ?_) (fun cdv A outer s H vs Q E hr h => ?_)
  · obtain ⟨p, dx, l, fs, zs, rfl, _⟩ := h
    rfl
  · obtain ⟨p, dx, l, fs, zs, rfl, hp, hlk, hl, k⟩ := h
    refine ⟨_, PSs.nox (pss_one (ps_ret (pe_callB call_iterL (by rfl) hI (by decide +kernel) (pa_cons (pe_fld (pv 0) (by rfl)) pa_nil)))), ?_⟩
    exact ⟨_, rfl, p, CY, dx, fs, .ref l, rfl, hp, T.cl, T.n4, hlk, l, zs, rfl, SqL.of hl, k⟩
def spLenC (CY : Addr) : Sp := fun vs H Q _ => ∃ (p dx d : Addr) (fs : List (Str × V)) (kvs : List (Key × V)), vs = [.ref p] ∧ H p = some (.ins CY dx fs) ∧ fs.lookup ("_held" : Str) = some (.ref d) ∧ H d = some (.dK kvs) ∧ Q (.int (kvs.length : Nat)) H
theorem scLenC : FnScope ["self"] ["self"] (defScope sLenC) := ⟨rfl, rfl, rfl, by decide +kernel, rfl, by decide +kernel, by decide +kernel⟩
theorem ok_lenC {CY f : Addr} {fd : FuncData} (F : MethD K "__len__" "Copy.__len__" sLenC f fd) (T : TxtY K CY) (hL : mg "len" = none) : FnOk P w K mg base CX0 1 f fd ["self"] (spLenC CY) := by
  refine F.ok scLenC (fun vs H Q E h => ?_) (fun cdv A outer s H vs Q E hr h => ?_)
  · obtain ⟨p, dx, d, fs, kvs, rfl, _⟩ := h
    rfl
  · obtain ⟨p, dx, d, fs, kvs, rfl, hp, hlk, hd, k⟩ := h
    refine ⟨_, PSs.nox (pss_one (ps_ret (pe_callB call_lenD (by rfl) hL (by decide +kernel) (pa_cons (pe_fld (pv 0) (by rfl)) pa_nil)))), ?_⟩
    exact ⟨_, rfl, p, CY, dx, fs, .ref d, rfl, hp, T.cl, T.n3, hlk, d, kvs, rfl, hd, k⟩
/-- what list(copy) comes to -/
theorem list_copy {CY CH : Addr} {H : Hp} {p d h : Addr} {b : Hab} {cols : List Str} {n : Nat} {st : Int → Option (List V × List Int)} {Q : VK} (c : CopyOk CY CH H p d h b cols n st) (hn : n ≤ 1000)
    (q : ∀ l ks G, Same H G → H l = none → G l = some (.lst (ks.map V.int)) → KsOk ks st → Q (.ref l) G) : Ci.rListI CY (spIterC CY) (spLenC CY) [.ref p] H Q := by
  obtain ⟨dx, t, l, mks, ks, h1, h2, h3, h4, l1, l2, m, ko⟩ := c.at_
  refine ⟨p, dx, _, l, _, rfl, h1, h4, by rw [List.length_map]; omega, fun G s => ⟨p, dx, l, _, _, rfl, s _ _ h1, rfl, s _ _ h4, fun it nit => ⟨it, rfl, nit, rfl⟩⟩, fun G s => ⟨p, dx, d, _, mks, rfl, s _ _ h1, rfl, s _ _ h3, mks.length, by omega, rfl, rfl⟩, fun u G nu s gu => q u ks G s nu gu ko⟩
end
end Lw

set_option Elab.async false
set_option linter.all false
set_option maxRecDepth 100000
set_option maxHeartbeats 40000000
namespace Lw
open PySem PySem.Spec PyProof.Rows L2
section
variable {P : Program} {w : World} {K : PySem.W.Frag} {mg : Str → Option Value} {base : Heap}
/-! one message, by its state -/
theorem wayok2 {b : Hab} {o : Option (List V × List Int)} {z : Str} (hb : HabIs b) (hz : z ∈ deeds) : WayOk2 (wayOf b o.isSome z) o := by
  intro hw
  cases o with
  | some q => rfl
  | none =>
    exfalso
    obtain ⟨_, i2, i3, _⟩ := hb
    have hd : z = "put" ∨ z = "change" ∨ z = "take" := by
      rcases List.mem_cons.mp hz with h | h
      · exact .inl h
      rcases List.mem_cons.mp h with h | h
      · exact .inr (.inl h)
      rcases List.mem_cons.mp h with h | h
      · exact .inr (.inr h)
      · cases h
    have no : ∀ y : Str, y ∈ (["stop", "skip", "make"] : List Str) → ¬ (y = "one" ∨ y = "all" ∨ y = "keep" ∨ y = "merge") := by decide +kernel
    rcases hd with rfl | rfl | rfl
    · have e : wayOf b (none : Option (List V × List Int)).isSome "put" = "make" := way_put
      rw [e] at hw
      exact no "make" (by decide +kernel) hw
    · have e : wayOf b (none : Option (List V × List Int)).isSome "change" = b.la := way_chg
      rw [e] at hw
      exact no _ i2 hw
    · have e : wayOf b (none : Option (List V × List Int)).isSome "take" = b.go := way_take (by decide) (by decide)
      rw [e] at hw
      refine no _ ?_ hw
      rcases List.mem_cons.mp i3 with h | h
      · rw [h]; decide +kernel
      rcases List.mem_cons.mp h with h | h
      · rw [h]; decide +kernel
      · cases h
theorem writ_good {way : Str} {kvs : List (Key × V)} {cols : List Str} {o : Option (List V × List Int)} (g : GoodO cols o) (w2 : WayOk2 way o) (hk : ∀ q ∈ kvs, IntN q.2) : (writ way kvs cols o).length = cols.length ∧ ∀ v ∈ writ way kvs cols o, IntN v := by
  unfold writ
  split
  · rename_i e
    cases o with
    | none => exact absurd (w2 (.inr (.inr (.inl e)))) (by decide)
    | some q => exact ⟨(g q.1 q.2 rfl).1, (g q.1 q.2 rfl).2.2.2.2⟩
  · split
    · rename_i e
      cases o with
      | none => exact absurd (w2 (.inr (.inr (.inr e)))) (by decide)
      | some q =>
        rw [mrg_eq]
        exact ⟨mrg_len (g q.1 q.2 rfl).1, mrg_int hk (g q.1 q.2 rfl).2.2.2.2⟩
    · rw [new_eq]
      refine ⟨mrg_len (by rw [List.length_map]), mrg_int hk fun v hv => ?_⟩
      obtain ⟨_, _, e⟩ := List.mem_map.mp hv
      exact .inr e.symm
def FeedsIn (feeds : List Int) (o : Option (List V × List Int)) : Prop := ∀ row fs, o = some (row, fs) → ∀ f ∈ fs, f ∈ feeds
theorem good_step {way : Str} {cols : List Str} {kvs : List (Key × V)} {f : Int} {feeds : List Int} {o o' : Option (List V × List Int)} (g : GoodO cols o) (fi : FeedsIn feeds o) (hf : f ∈ feeds) (w2 : WayOk2 way o) (hk : ∀ q ∈ kvs, IntN q.2) (ha : AppR way cols kvs f o o') : GoodO cols o' ∧ FeedsIn feeds o' := by
  rcases ha with ⟨_, e⟩ | ⟨_, ⟨hw, e⟩ | ⟨_, _, ys, e, so, ny, my⟩⟩
  · rw [e]
    exact ⟨g, fi⟩
  · cases o with
    | none => exact absurd (w2 (by rcases hw with h | h; exact .inl h; exact .inr (.inl h))) (by decide)
    | some q =>
      obtain ⟨row, fs⟩ := q
      obtain ⟨r1, r2, r3, r4, r5⟩ := g row fs rfl
      have e : o' = takenO way f row fs := e
      by_cases hl : way = "all" ∧ leftOf f fs ≠ []
      · have et : takenO way f row fs = some (row, leftOf f fs) := if_pos hl
        rw [et] at e
        rw [e]
        refine ⟨fun row' fs' e2 => ?_, fun row' fs' e2 => ?_⟩
        · cases e2
          exact ⟨r1, hl.2, r3.filter _, r4.filter _, r5⟩
        · cases e2
          exact fun u hu => fi row fs rfl u (List.mem_filter.mp hu).1
      · have et : takenO way f row fs = none := if_neg hl
        rw [et] at e
        rw [e]
        exact ⟨fun _ _ e2 => absurd e2 (by simp), fun _ _ e2 => absurd e2 (by simp)⟩
  · rw [e]
    obtain ⟨w1, w3⟩ := writ_good (cols := cols) (kvs := kvs) g w2 hk
    refine ⟨fun row' fs' e2 => ?_, fun row' fs' e2 => ?_⟩
    · cases e2
      exact ⟨w1, (fun h => by have := (my f).mpr (.inl rfl); rw [h] at this; cases this), so, ny, w3⟩
    · cases e2
      intro u hu
      rcases (my u).mp hu with h | h
      · exact h ▸ hf
      · cases o with
        | none => cases h
        | some q => exact fi q.1 q.2 rfl u h
theorem nodup_le40 : ∀ {l ts : List Int}, l.Nodup → (∀ x ∈ l, x ∈ ts) → l.length ≤ ts.length
  | [], _, _, _ => Nat.zero_le _
  | x :: l, ts, hn, hs => by
    have hx : x ∈ ts := hs x List.mem_cons_self
    have hn2 := List.nodup_cons.mp hn
    have ih := nodup_le40 (l := l) (ts := ts.erase x) hn2.2 fun y hy => by
      have ne : y ≠ x := fun e => hn2.1 (e ▸ hy)
      exact (List.mem_erase_of_ne ne).mpr (hs y (List.mem_cons_of_mem _ hy))
    rw [List.length_erase_of_mem hx] at ih
    have pos : 0 < ts.length := List.length_pos_of_mem hx
    simp only [List.length_cons]
    omega
theorem setSt_self {st : Int → Option (List V × List Int)} {key : Int} {o : Option (List V × List Int)} (h : st key = o) : setSt st key o = st := by
  funext k
  unfold setSt
  by_cases e : k = key
  · rw [if_pos e, e, h]
  · rw [if_neg e]
theorem CopyOk.mono {CY CH : Addr} {G : Hp} {p d h : Addr} {b : Hab} {cols : List Str} {n m : Nat} {st : Int → Option (List V × List Int)} (l : n ≤ m) (c : CopyOk CY CH G p d h b cols n st) : CopyOk CY CH G p d h b cols m st := by
  obtain ⟨dx, t, q, mks, ks, h1, h2, h3, h4, l1, l2, mp, ko⟩ := c.at_
  exact ⟨⟨dx, t, q, mks, ks, h1, h2, h3, h4, Nat.le_trans l1 l, Nat.le_trans l2 l, mp, ko⟩, c.hab⟩
end
end Lw

set_option Elab.async false
set_option linter.all false
set_option maxRecDepth 100000
set_option maxHeartbeats 40000000
namespace Lw
open PySem PySem.Spec PyProof.Rows L2
abbrev sSource : Stmt := top 25
abbrev sDraw : Stmt := top 26
abbrev sPick : Stmt := top 27
abbrev sWord : Stmt := top 28
abbrev sWords : Stmt := top 29
abbrev sNumber : Stmt := top 30
abbrev sCells : Stmt := top 37
section
variable {P : Program} {w : World} {K : PySem.W.Frag} {mg : Str → Option Value} {base : Heap}
theorem scSource : FnScope ["script", "at", "cell", "great"] ["script", "at"] (defScope sSource) := ⟨rfl, rfl, rfl, by decide +kernel, rfl, by decide +kernel, by decide +kernel⟩
theorem ok_source {f : Addr} {fd : FuncData} (F : FnP K "_law_source" sSource f fd) (T : TxtD mg) (hsum : mg "sum" = none) : FnOk P w K mg base CX0 1 f fd ["script", "at"] (spSource K) := by
  refine F.ok scSource (fun vs H Q E h => ?_) (fun cdv A outer s H vs Q E hr h => ?_)
  · obtain ⟨a, ns, i, rfl, _⟩ := h
    rfl
  · obtain ⟨a, ns, i, rfl, hS, hl, i0, i1, k⟩ := h
    refine ⟨_, PSs.nox (pss_cons (ps_set (i := 2) scSource.nd rfl (Or.inl rfl) (pe_ifExp (pt_cmpR op_lt (pv 1) (pe_callB call_len_seq (by rfl) T.len PySem.boot_len (pa_cons (pv 0) pa_nil)) (nomark _)) (pe_callTy call_int1 (by rfl) T.int (by decide +kernel) (pa_cons (pe_ix ix_list (pv 0) (pv 1) (fun _ _ => rfl)) pa_nil))
        (pe_op op_modN (pe_callTy call_int1 (by rfl) T.int (by decide +kernel) (pa_cons (pe_callB (cr_sum rfl) (by rfl) hsum (by decide +kernel) (pa_cons (pe_slice sl_list (pv 0) po_none (po_some pe_int)) pa_nil)) pa_nil)) pe_int)))
      (pss_cons (ps_set (i := 3) scSource.nd rfl (Or.inl rfl) (pe_ifExp (pt_cmpR op_ge (pe_callB call_abs (by rfl) T.abs (by decide +kernel) (pa_cons (pv 2) pa_nil)) (pe_op op_pow pe_int pe_int) (nomark _)) (pe_callB call_abs (by rfl) T.abs (by decide +kernel) (pa_cons (pv 2) pa_nil)) pe_int))
      (pss_one (ps_ret (pe_lst (pa_cons (pv 3) (pa_cons (pe_op op_add (pe_op op_add (pe_op op_modN (pe_callTy call_int1 (by rfl) T.int (by decide +kernel) (pa_cons (pv 2) pa_nil)) pe_int) (pe_op op_mul pe_int (pv 1))) pe_int) (pa_cons pe_int pa_nil)))))))), ?_⟩
    refine sq_set (fun x H' => Same H H' ∧ ∃ c : Int, x = .int c) (fun Q q => ?_) ?_
    · refine ⟨_, rfl, _, rfl, a, _, rfl, .inl hS, _, _, rfl, rfl, _, rfl, ?_⟩
      refine bool_ite (fun c => ?_) (fun c => ?_)
      · obtain ⟨x, hx, hm⟩ := atI_get (xs := ns.map V.int) i0 (by simpa using c)
        obtain ⟨z, _, rfl⟩ := List.mem_map.mp hm
        exact ⟨_, rfl, _, rfl, a, _, _, _, rfl, rfl, hS, hx, .inl ⟨_, rfl, q _ _ ⟨Same.refl H, z, rfl⟩⟩⟩
      · refine ⟨_, rfl, 1, rfl, a, _, rfl, hS, fun p hp => ?_⟩
        obtain ⟨ms, hms, hml⟩ := cutV_ints ns none (some 1)
        refine ⟨p, ms, rfl, SqL.of (by rw [← hms]; exact upd_same), ?_⟩
        exact .inl ⟨_, rfl, _, _, rfl, rfl, (by show (1000003 : Int) ≠ 0; decide), q _ _ ⟨Lw.Same.new (Same.refl H) hp, _, rfl⟩⟩
    rintro _ H1 ⟨s1, c, rfl⟩
    refine sq_set (fun x H' => H1 = H' ∧ ∃ d : Int, x = .int d ∧ 0 ≤ d) (fun Q q => ?_) ?_
    · refine ⟨_, rfl, _, rfl, _, _, rfl, rfl, ⟨by decide, by decide, by decide⟩, _, _, rfl, rfl, _, rfl, ?_⟩
      refine bool_ite (fun _ => ?_) (fun _ => ?_)
      · exact ⟨_, rfl, _, rfl, q _ _ ⟨rfl, _, rfl, by split <;> omega⟩⟩
      · exact q _ _ ⟨rfl, 0, rfl, by decide⟩
    rintro _ _ ⟨rfl, d, rfl, d0⟩
    refine ⟨_, rfl, _, rfl, .inl ⟨_, rfl, _, _, rfl, rfl, (by show (2305843009213693951 : Int) ≠ 0; decide), _, rfl, _, _, rfl, rfl, .inl ⟨by decide, by decide⟩, _, _, rfl, rfl, _, _, rfl, rfl, (by show 3 ≤ sizeLine; decide), fun p hp => ?_⟩⟩
    have hb := fmod_src c
    exact k p _ (none_of_same s1 hp) (Lw.Same.new s1 hp) ⟨d, _, 0, upd_same, d0, by omega, by omega, by decide, by decide⟩
theorem scDraw : FnScope ["source", "many", "digit", "mixed"] ["source", "many"] (defScope sDraw) := ⟨rfl, rfl, rfl, by decide +kernel, rfl, by decide +kernel, by decide +kernel⟩
theorem ok_draw {f : Addr} {fd : FuncData} (F : FnP K "_law_draw" sDraw f fd) (T : TxtD mg) : FnOk P w K mg base CX0 1 f fd ["source", "many"] spDrawW := by
  refine F.ok scDraw (fun vs H Q E h => ?_) (fun cdv A outer s H vs Q E hr h => ?_)
  · obtain ⟨a, n, m, rfl, _⟩ := h
    rfl
  · obtain ⟨a, n, m, rfl, ⟨d, s', t, hA, d0, s0, s1, t0, t1⟩, hn, m0, m1, k⟩ := h
    have hu := hu_of hr
    have nd := scDraw.nd
    refine ⟨_, PSs.nox (pss_cons (ps_if (pt_cmpR op_gt (pe_ix ix_list (pv 0) pe_int (fun _ _ => rfl)) pe_int (nomark _))
        (pss_cons (ps_set (i := 2) nd rfl (Or.inl rfl) (pe_op op_modN (pe_callTy call_int1 (by rfl) T.int (by decide +kernel) (pa_cons (pe_ix ix_list (pv 0) pe_int (fun _ _ => rfl)) pa_nil)) (pv 1)))
          (pss_cons (ps_asg (pe_op op_fdivW (pe_ix ix_list (pv 0) pe_int (fun _ _ => rfl)) (pv 1)) (pg_sub (pv 0) pe_int set_list)) (pss_one (ps_ret (pv 2))))) pss_nil)
      (pss_cons (ps_asg (pe_op op_add (pe_ix ix_list (pv 0) pe_int (fun _ _ => rfl)) pe_int) (pg_sub (pv 0) pe_int set_list))
      (pss_cons (ps_set (i := 3) nd rfl (Or.inl rfl) (pe_op op_modN (pe_callTy call_int1 (by rfl) T.int (by decide +kernel) (pa_cons (pe_op op_add (pe_op op_pow (pe_op op_add (pe_ix ix_list (pv 0) pe_int (fun _ _ => rfl)) (pe_op op_mul pe_int (pe_ix ix_list (pv 0) pe_int (fun _ _ => rfl)))) pe_int) (pe_op op_mul pe_int (pe_ix ix_list (pv 0) pe_int (fun _ _ => rfl)))) pa_nil)) pe_int))
      (pss_cons (ps_set (i := 3) nd rfl (Or.inl rfl) (pe_op op_modN (pe_callTy call_int1 (by rfl) T.int (by decide +kernel) (pa_cons (pe_op op_add (pe_op op_pow (pe_op op_add (pv 3) (pe_op op_mul pe_int (pe_ix ix_list (pv 0) pe_int (fun _ _ => rfl)))) pe_int) (pe_op op_mul pe_int (pv 3))) pa_nil)) pe_int))
      (pss_one (ps_ret (pe_op op_modN (pe_callTy call_int1 (by rfl) T.int (by decide +kernel) (pa_cons (pe_op op_fdivN (pv 3) pe_int) pa_nil)) (pv 1)))))))), ?_⟩
    have zA : ∀ (r : Int), 0 ≤ r.fmod m ∧ r.fmod m < m := fun r => ⟨Int.fmod_nonneg_of_pos r m0, Int.fmod_lt_of_pos r m0⟩
    have mz : m ≠ 0 := by omega
    refine sq_if (fun b H' => H = H' ∧ b = decide (0 < d)) (fun Q q => ?_) ?_ ?_
    · exact ⟨_, rfl, a, _, _, _, rfl, rfl, SqL.of hA, rfl, _, _, rfl, rfl, _, rfl, q _ _ ⟨rfl, rfl⟩⟩
    · rintro _ ⟨rfl, c⟩
      refine ⟨_, rfl, a, _, _, _, rfl, rfl, SqL.of hA, rfl, .inl ⟨_, rfl, _, rfl, _, _, rfl, rfl, mz, ?_⟩⟩
      refine ⟨_, rfl, a, _, _, _, rfl, rfl, SqL.of hA, rfl, _, rfl, _, _, rfl, rfl, wide_div m0 m1 (by decide) (by decide), _, rfl, a, _, _, _, rfl, rfl, hA, rfl, _, rfl, ?_⟩
      exact k _ _ (Keep.refl H).upd ⟨_, _, _, upd_same, Int.ediv_nonneg d0 (by omega), s0, s1, t0, by omega⟩ (zA d).1 (zA d).2
    · rintro _ ⟨rfl, c⟩
      refine ⟨_, rfl, a, _, _, _, rfl, rfl, SqL.of hA, rfl, _, _, rfl, rfl, _, rfl, a, _, _, _, rfl, rfl, hA, rfl, ?_⟩
      dsimp only
      refine sq_set (fun x H' => upd H a (.lst [.int d, .int s', .int (t + 1)]) = H' ∧ ∃ z : Int, x = .int z ∧ 0 ≤ z ∧ z < 2305843009213693951) (fun Q q => ?_) ?_
      · refine ⟨_, rfl, a, _, _, _, rfl, rfl, SqL.of upd_same, rfl, _, rfl, a, _, _, _, rfl, rfl, SqL.of upd_same, rfl, _, _, rfl, rfl, .inl ⟨by decide, by decide⟩, _, _, rfl, rfl, _, _, rfl, rfl, ⟨by decide, by decide, ?_⟩, _, rfl, a, _, _, _, rfl, rfl, SqL.of upd_same, rfl, _, _, rfl, rfl, .inl ⟨by decide, by decide⟩, _, _, rfl, rfl,
          .inl ⟨_, rfl, _, _, rfl, rfl, (by show (2305843009213693951 : Int) ≠ 0; decide), ?_⟩⟩
        · show (s' + 15485863 * (t + 1)).natAbs < 2 ^ 64
          omega
        · exact q _ _ ⟨rfl, _, rfl, (fmod_src _).1, (fmod_src _).2⟩
      rintro _ _ ⟨rfl, z, rfl, z0, z1⟩
      refine sq_set (fun x H' => upd H a (.lst [.int d, .int s', .int (t + 1)]) = H' ∧ ∃ z : Int, x = .int z ∧ 0 ≤ z ∧ z < 2305843009213693951) (fun Q q => ?_) ?_
      · refine ⟨_, rfl, _, rfl, a, _, _, _, rfl, rfl, SqL.of upd_same, rfl, _, _, rfl, rfl, .inl ⟨by decide, by decide⟩, _, _, rfl, rfl, _, _, rfl, rfl, ⟨by decide, by decide, ?_⟩, _, rfl, _, _, rfl, rfl, .inl ⟨by decide, by decide⟩, _, _, rfl, rfl,
          .inl ⟨_, rfl, _, _, rfl, rfl, (by show (2305843009213693921 : Int) ≠ 0; decide), ?_⟩⟩
        · show (z + 32452867 * (t + 1)).natAbs < 2 ^ 64
          omega
        · refine q _ _ ⟨rfl, _, rfl, Int.fmod_nonneg_of_pos _ (by show (0 : Int) < 2305843009213693921; decide), ?_⟩
          exact Int.lt_trans (Int.fmod_lt_of_pos _ (by show (0 : Int) < 2305843009213693921; decide)) (by decide)
      rintro _ _ ⟨rfl, y, rfl, y0, y1⟩
      refine ⟨_, rfl, _, _, rfl, rfl, ⟨by decide, by decide⟩, .inl ⟨_, rfl, _, rfl, _, _, rfl, rfl, mz, ?_⟩⟩
      exact k _ _ ((Keep.refl H).upd) ⟨_, _, _, upd_same, d0, by omega, by omega, by omega, by omega⟩ (zA _).1 (zA _).2
theorem cal_draw (T : TxtD mg) (D : DefIs K mg "_law_draw" sDraw) : Cal P w K mg base CX0 "_law_draw" 1 ["source", "many"] spDrawW := by
  obtain ⟨f, fd, hm, F⟩ := D
  exact ⟨f, fd, hm, F.kp, ok_draw F T, F.bindsN fun _ _ _ _ _ _ us hl => match us, hl with | [_, _], _ => rfl⟩
theorem scPick : FnScope ["source", "some"] ["source", "some"] (defScope sPick) := ⟨rfl, rfl, rfl, by decide +kernel, rfl, by decide +kernel, by decide +kernel⟩
theorem ok_pick {f : Addr} {fd : FuncData} (F : FnP K "_law_pick" sPick f fd) (T : TxtD mg) (cD : Cal P w K mg base CX0 "_law_draw" 1 ["source", "many"] spDrawW) : FnOk P w K mg base CX0 2 f fd ["source", "some"] (spOf K) := by
  refine F.ok scPick (fun vs H Q E h => ?_) (fun cdv A outer s H vs Q E hr h => ?_)
  · obtain ⟨a, b, n, xs, rfl, _⟩ := h
    rfl
  · obtain ⟨a, b, n, xs, rfl, hs, hn, ba, hb, x0, x1, k⟩ := h
    refine ⟨_, PSs.nox (pss_one (ps_ret (pe_ix ix_list (pv 1) (pe_cal cD hr (pa_cons (pv 0) (pa_cons (pe_callB call_len_seq (by rfl) T.len PySem.boot_len (pa_cons (pv 1) pa_nil)) pa_nil))) (fun _ _ => rfl)))), ?_⟩
    have xl : 0 < xs.length := List.length_pos_iff.mpr x0
    refine ⟨_, rfl, _, rfl, _, rfl, b, _, rfl, .inl hb, a, n, _, rfl, hs, hn, by omega, small_m (by omega), fun H' i kp sr i0 i1 => ?_⟩
    obtain ⟨x, hx, hm⟩ := atI_get i0 i1
    exact ⟨b, _, _, _, rfl, rfl, kp.seq ba hb, hx, k _ _ kp sr hm⟩
abbrev nWord2 : List Str := ["source", "taken", "letters", "word", "letter", "turn"]
theorem scWord : FnScope nWord2 ["source", "taken"] (defScope sWord) := ⟨rfl, rfl, rfl, by decide +kernel, rfl, by decide +kernel, by decide +kernel⟩
theorem ok_word {f : Addr} {fd : FuncData} (F : FnP K "_law_word" sWord f fd) (T : TxtD mg) (cD : Cal P w K mg base CX0 "_law_draw" 1 ["source", "many"] spDrawW) : FnOk P w K mg base CX0 2 f fd ["source", "taken"] (spWord2 K) := by
  refine F.ok scWord (fun vs H Q E h => ?_) (fun cdv A outer s H vs Q E hr h => ?_)
  · obtain ⟨a, b, n, ts, rfl, _⟩ := h
    rfl
  · obtain ⟨a, b, n, ts, rfl, hs, hn, ba, hb, hts, k⟩ := h
    have nd := scWord.nd
    refine ⟨_, PSs.nox (pss_cons (ps_set (i := 2) nd rfl (Or.inr rfl) pe_str)
      (pss_cons (ps_set (i := 3) nd rfl (Or.inl rfl) (pe_join pe_str (pe_lc (own := [("turn", 5)]) (g := gName 5) (tt := tYes) rfl nd (pi_range1 rfl T.range (pa_cons (pe_op op_add pe_int (pe_cal cD hr (pa_cons (pv 0) (pa_cons pe_int pa_nil)))) pa_nil))
        (blkOk_by (N := nWord2) (sc := defScope sWord) (by decide +kernel)) (fun _ _ _ _ _ => pg_name (i := 5) nd rfl (Or.inl rfl)) (fun _ _ _ _ _ => pts_nil) (fun _ _ _ _ _ => pe_ix ix_str (pv 2) (pe_cal cD hr (pa_cons (pv 0) (pa_cons pe_int pa_nil))) (fun _ _ => rfl)))))
      (pss_cons (ps_for PassesOwn.never rfl (pi_str (pv 2)) (pg_name (i := 4) nd rfl (Or.inl rfl))
        (pss_one (ps_if (pt_cmpR op_in_seq (pv 3) (pv 1) rfl) (pss_one (ps_set (i := 3) nd rfl (Or.inl rfl) (pe_op op_add_str (pv 4) (pe_slice sl_str (pv 3) (po_some pe_int) po_none)))) pss_nil)))
      (pss_one (ps_ret (pv 3)))))), ?_⟩
    refine sq_set (fun x H' => H = H' ∧ x = .str letters) (fun Q q => q _ _ ⟨rfl, rfl⟩) ?_
    rintro _ _ ⟨rfl, rfl⟩
    refine sq_set (fun x H' => ∃ z, x = .str z ∧ IsWord z ∧ Keep a H H' ∧ Src H' a (n + 10)) (fun Q q => ?_) ?_
    · refine ⟨⟨_, rfl⟩, _, rfl, a, n, _, rfl, hs, by omega, by decide, by decide, fun H1 i k1 s1 i0 i1 => ⟨_, _, rfl, rfl, _, rfl, by omega, by omega, fun D hD => ?_⟩⟩
      have Da : D ≠ a := s1.ne hD
      refine lc_range (lo := 0) (n := (1 + i).toNat) (fun j H' => ∃ cs : List Nat, H' D = some (.lst ((cs.map sign).map V.str)) ∧ cs.length = j ∧ (∀ c ∈ cs, c ∈ abc) ∧ Keep a H H' ∧ Src H' a (n + 1 + j))
        ⟨[], upd_same, rfl, fun _ h => (List.not_mem_nil h).elim, k1.new hD, s1.new hD⟩ ?_ ?_
      · rintro j H' hj ⟨cs, hd, hl, ha, k2, s2⟩
        refine ⟨rfl, _, rfl, _, rfl, a, _, _, rfl, s2, by omega, by decide, by decide, fun H3 i3 k3 s3 j0 j1 => ?_⟩
        obtain ⟨c, hc, hm⟩ := abc_at j0 j1
        have hd3 := k3 _ _ Da hd
        refine ⟨_, _, c, rfl, rfl, (by show letters.cps.size ≤ sizeLine; rw [letters_cps]; decide), hc, _, hd3, by simp only [List.length_map, hl]; exact small1000 (by omega), cs ++ [c], ?_, by simp [hl], fun x hx => ?_, ?_, ?_⟩
        · rw [upd_same]; simp [sign]
        · rcases List.mem_append.mp hx with h | h
          · exact ha x h
          · rw [List.mem_singleton.mp h]; exact hm
        · intro b' o nb ho
          have e := k3 b' o nb (k2 b' o nb ho)
          by_cases hbD : b' = D
          · exfalso
            rw [hbD] at ho nb
            have := k1 D o nb ho
            rw [hD] at this
            cases this
          · rw [upd_ne hbD]; exact e
        · obtain ⟨d, s', t, h1, h2⟩ := s3
          exact ⟨d, s', t, by rw [upd_ne Da.symm]; exact h1, h2⟩
      · rintro H' ⟨cs, hd, hl, ha, k2, s2⟩
        refine ⟨_, D, cs.map sign, rfl, rfl, .inl (SqL.of hd), ?_, ?_⟩
        · have e1 : ((cs.map sign).map (·.length)).sum = cs.length := by
            clear hd hl ha
            induction cs with
            | nil => rfl
            | cons c r ih => simp only [List.map_cons, List.sum_cons, ih, List.length_cons]; show 1 + _ = _; omega
          have e2 : (PySem.Str.ofString "").length = 0 := by decide +kernel
          rw [e1, e2]
          omega
        · have e : (Txt.join (PySem.Str.ofString "") (cs.map sign)).cps.toList = cs := join_signs _ (by decide +kernel) cs
          refine q _ _ ⟨_, rfl, ⟨?_, ?_, ?_⟩, k2, s2.mono (by omega)⟩
          · rw [len_tl, e]; omega
          · rw [len_tl, e]; omega
          · rw [e]; exact fun c hc => abc_le (ha c hc)
    rintro _ H1 ⟨z, rfl, hz, k1, s1⟩
    have hb1 := k1.seq ba hb
    refine ⟨_, rfl, letters, rfl, ?_⟩
    refine for_it walk_str (fun j σ H' => H1 = H' ∧ ∃ (y : Str) (v4 v5 : Option V), σ = [some (.ref a), some (.ref b), some (.str letters), some (.str y), v4, v5] ∧ WInv z ts j y) ⟨rfl, z, _, _, rfl, WInv.zero hz⟩ (fun _ _ _ _ _ => trivial) ?_ ?_
    · rintro j x σ H' _ hj ⟨rfl, y, v4, v5, rfl, hw⟩ ⟨rfl, c, hc, rfl⟩
      have hc2 : abc[j]? = some c := by
        rw [letters_cps] at hc
        simpa using hc
      refine g_name ?_
      refine ⟨_, rfl, _, rfl, b, _, rfl, .inl hb1, rfl, flat_strs ts, _, rfl, str_mem (fun hin => ?_) (fun hni => ?_)⟩
      · have hw2 := hw.word
        have h9 : sizeLine = 16777216 := by decide
        refine ⟨_, rfl, _, rfl, 1, rfl, _, rfl, ?_, _, _, rfl, rfl, ?_, ?_⟩
        · have := hw2.2.1
          omega
        · have := hw2.2.1
          have e1 : (cand1 y c).length = 1 + (cutS y (some 1) none).length := by
            show (sign c ++ _).length = _
            rw [len_tl, tl_app, List.length_append, ← len_tl (cutS y (some 1) none)]
            rfl
          have e2 := (hw.step hin hc2).word.2.1
          show 1 + _ ≤ _
          omega
        · exact ⟨rfl, _, _, _, rfl, hw.step hin hc2⟩
      · exact ⟨rfl, y, _, _, rfl, hw.stay hni⟩
    · rintro σ H' ⟨rfl, y, v4, v5, rfl, hw⟩
      have e : letters.cps.size = 26 := by rw [letters_cps]; rfl
      rw [e] at hw
      exact ⟨_, rfl, k _ _ k1 s1 hw.word (hw.done hts)⟩
theorem scWords : FnScope ["source", "many", "taken", "found", "turn"] ["source", "many", "taken"] (defScope sWords) := ⟨rfl, rfl, rfl, by decide +kernel, rfl, by decide +kernel, by decide +kernel⟩
theorem ok_words {f : Addr} {fd : FuncData} (F : FnP K "_law_words" sWords f fd) (T : TxtD mg) (cW : Cal P w K mg base CX0 "_law_word" 2 ["source", "taken"] (spWord2 K)) : FnOk P w K mg base CX0 3 f fd ["source", "many", "taken"] (spWords K) := by
  refine F.ok scWords (fun vs H Q E h => ?_) (fun cdv A outer s H vs Q E hr h => ?_)
  · obtain ⟨a, b, n, m, ts, rfl, _⟩ := h
    rfl
  · obtain ⟨a, b, n, m, ts, rfl, hs, hn, ba, hb, hts, hm, k⟩ := h
    have nd := scWords.nd
    have h9 : sizeLine = 16777216 := by decide
    refine ⟨_, PSs.nox (pss_cons (ps_set (i := 3) nd rfl (Or.inl rfl) (pe_lst pa_nil))
      (pss_cons (ps_for PassesOwn.never rfl (pi_range1 rfl T.range (pa_cons (pv 1) pa_nil)) (pg_name (i := 4) nd rfl (Or.inl rfl))
        (pss_one (ps_expr (pe_bm PySem.F.plainAttrs_list PySem.F.slot_list_append PySem.F.type_list_append mt_append (pv 3) (pa_cons (pe_cal cW hr (pa_cons (pv 0) (pa_cons (pe_op op_cat (pv 2) (pv 3)) pa_nil))) pa_nil)))))
      (pss_one (ps_ret (pv 3))))), ?_⟩
    refine sq_set (fun x H1 => ∃ l, x = .ref l ∧ H l = none ∧ H1 = upd H l (.lst [])) (fun Q q => ⟨(by show 0 ≤ sizeLine; decide), fun l nl => q _ _ ⟨l, rfl, nl, rfl⟩⟩) ?_
    rintro _ _ ⟨l, rfl, nl, rfl⟩
    have la : l ≠ a := hs.ne nl
    have lb : l ≠ b := fun z => by subst z; rw [nl] at hb; cases hb
    refine ⟨_, rfl, _, rfl, by omega, by omega, ?_⟩
    refine for_range (lo := 0) (fun j σ G => ∃ (v : Option V) (ws : List Str), σ = [some (.ref a), some (.int m), some (.ref b), some (.ref l), v] ∧ Keep a H G ∧ Src G a (n + 10 * j) ∧ G l = some (.lst (ws.map V.str)) ∧ ws.length = j ∧ GoodWs ws ts) ⟨_, [], rfl, (Keep.refl H).new nl, hs.new nl, upd_same, rfl, GoodWs.nil⟩ ?_ ?_
    · rintro j σ G hj ⟨v, ws, rfl, kG, sG, hl, wl, gw⟩
      have hj2 : j < 8 := by omega
      refine g_name ?_
      refine ⟨_, rfl, .inl ⟨rfl, _, SqL.of hl⟩, _, rfl, _, rfl, _, rfl, b, l, _, _, rfl, rfl, kG _ _ ba hb, hl, ?_, fun p np => ?_⟩
      · simp only [List.length_map]; omega
      refine ⟨a, p, _, ts ++ ws, rfl, sG.new np, by omega, sG.ne np, SqL.of (by rw [List.map_append]; exact upd_same), ?_, fun G2 z k2 s2 hz hzn => ?_⟩
      · rw [List.length_append]; omega
      have hl2 := k2 _ _ la ((Lw.Same.new (Same.refl G) np) _ _ hl)
      refine ⟨l, _, _, rfl, rfl, hl2, ?_, ?_⟩
      · simp only [List.length_map]; omega
      refine ⟨_, ws ++ [z], rfl, ?_, ?_, ?_, ?_, gw.snoc hz hzn⟩
      · exact keep_at nl ((kG.trans ((Keep.refl G).new np)).trans k2)
      · obtain ⟨d, s', t, h1, h2⟩ := s2.mono (show n + 10 * j + 10 ≤ n + 10 * (j + 1) by omega)
        exact ⟨d, s', t, by rw [upd_ne la.symm]; exact h1, h2⟩
      · rw [upd_same, List.map_append]; rfl
      · rw [List.length_append, wl]; rfl
    · rintro σ G ⟨v, ws, rfl, kG, sG, hl, wl, gw⟩
      exact ⟨_, rfl, k l G ws nl kG (sG.mono (by omega)) hl (by omega) gw⟩
theorem scNumber : FnScope ["source", "limit"] ["source", "limit"] (defScope sNumber) := ⟨rfl, rfl, rfl, by decide +kernel, rfl, by decide +kernel, by decide +kernel⟩
theorem ok_number {f : Addr} {fd : FuncData} (F : FnP K "_law_number" sNumber f fd) (cD : Cal P w K mg base CX0 "_law_draw" 1 ["source", "many"] spDrawW) : FnOk P w K mg base CX0 2 f fd ["source", "limit"] spNumL := by
  refine F.ok scNumber (fun vs H Q E h => ?_) (fun cdv A outer s H vs Q E hr h => ?_)
  · obtain ⟨a, n, m, rfl, _⟩ := h
    rfl
  · obtain ⟨a, n, m, rfl, hs, hn, m0, m1, k⟩ := h
    refine ⟨_, PSs.nox (pss_cons (ps_if (pt_cmpR op_gt (pe_cal cD hr (pa_cons (pv 0) (pa_cons pe_int pa_nil))) pe_int (nomark _)) (pss_one (ps_ret (pe_op op_sub (pe_cal cD hr (pa_cons (pv 0) (pa_cons pe_int pa_nil))) pe_int))) pss_nil)
      (pss_one (ps_ret (pe_op op_add (pe_op op_sub (pe_cal cD hr (pa_cons (pv 0) (pa_cons (pe_op op_sub (pe_op op_mul pe_int (pv 1)) pe_int) pa_nil))) (pv 1)) pe_int)))), ?_⟩
    refine sq_if1 (fun b H1 => Keep a H H1 ∧ Src H1 a (n + 1)) (fun Q q => ⟨_, rfl, a, n, _, rfl, hs, by omega, by decide, by decide, fun H1 i k1 s1 _ _ => ⟨_, _, rfl, rfl, _, rfl, q _ _ ⟨k1, s1⟩⟩⟩) ?_ ?_
    · rintro H1 ⟨k1, s1⟩
      exact ⟨_, rfl, a, _, _, rfl, s1, by omega, by decide, by decide, fun H2 i k2 s2 i0 i1 => ⟨_, _, rfl, rfl, k _ _ (k1.trans k2) (s2.mono (by omega))⟩⟩
    · rintro H1 ⟨k1, s1⟩
      refine ⟨_, rfl, _, rfl, _, _, rfl, rfl, .inl ⟨by decide, by decide⟩, _, _, rfl, rfl, a, _, _, rfl, s1, by omega, by omega, by omega, fun H2 i k2 s2 i0 i1 => ⟨_, rfl, _, _, rfl, rfl, _, _, rfl, rfl, k _ _ (k1.trans k2) (s2.mono (by omega))⟩⟩
/-! cells drawn for some names -/
def spCells : Sp := fun vs H Q _ => ∃ (a l : Addr) (n : Nat) (ws : List Str), vs = [.ref a, .ref l] ∧ Src H a n ∧ n ≤ 700000000 ∧ H l = some (.lst (ws.map V.str)) ∧ ws.Nodup ∧ (∀ z ∈ ws, IsWord z) ∧ ws.length ≤ 8 ∧
  ∀ d kvs G, H d = none → Keep a H G → Src G a (n + 25) → G d = some (.dK kvs) → RowOk kvs → (∀ k ∈ kvs.map (·.1), ∃ z ∈ ws, k = Sum.inr z) → Q (.ref d) G
theorem scCells : FnScope ["source", "names", "found", "bare", "name", "kind"] ["source", "names"] (defScope sCells) := ⟨rfl, rfl, rfl, by decide +kernel, rfl, by decide +kernel, by decide +kernel⟩
theorem ok_cells {f : Addr} {fd : FuncData} (F : FnP K "_law_cells" sCells f fd) (cD : Cal P w K mg base CX0 "_law_draw" 1 ["source", "many"] spDrawW) (cN : Cal P w K mg base CX0 "_law_number" 2 ["source", "limit"] spNumL) : FnOk P w K mg base CX0 3 f fd ["source", "names"] spCells := by
  refine F.ok scCells (fun vs H Q E h => ?_) (fun cdv A outer s H vs Q E hr h => ?_)
  · obtain ⟨a, l, n, ws, rfl, _⟩ := h
    rfl
  · obtain ⟨a, l, n, ws, rfl, hs, hn, hl, nw, ww, lw, k⟩ := h
    have nd := scCells.nd
    have h1 : Room 1 _ := hr.mono (by decide)
    have hu := hu_of hr
    have h9 : sizeLine = 16777216 := by decide
    refine ⟨_, PSs.nox (pss_cons (ps_par (i := 2) (j := 3) (by rfl) nd rfl rfl (by decide) rfl rfl (pa_cons pe_dnewK (pa_cons (pe_cmpR op_eq (pe_cal cD h1 (pa_cons (pv 0) (pa_cons pe_int pa_nil))) pe_int (nomark _)) pa_nil)) (by rfl))
      (pss_cons (ps_for PassesOwn.never rfl (pi_list (pe_ifExp (pt_val (pv 3)) (pe_lst pa_nil) (pv 1))) (pg_name (i := 4) nd rfl (Or.inl rfl))
        (pss_cons (ps_set (i := 5) nd rfl (Or.inl rfl) (pe_cal cD h1 (pa_cons (pv 0) (pa_cons pe_int pa_nil))))
        (pss_one (ps_if (pt_cmpR op_lt (pv 5) pe_int (nomark _)) (pss_one (ps_dput hu (pv 2) (pv 4) (pe_cal cN hr (pa_cons (pv 0) (pa_cons (pe_op op_pow pe_int pe_int) pa_nil))) rfl))
          (pss_one (ps_if (pt_cmpR op_eq (pv 5) pe_int (nomark _)) (pss_one (ps_dput hu (pv 2) (pv 4) pe_non rfl)) pss_nil))))))
      (pss_one (ps_ret (pv 2))))), ?_⟩
    refine sq_par (fun x y G => ∃ d b, x = .ref d ∧ y = .bl b ∧ H d = none ∧ Keep a H G ∧ Src G a (n + 1) ∧ G d = some (.dK []) ∧ G l = some (.lst (ws.map V.str))) (fun Q q => ?_) ?_
    · intro d nd
      have la : l ≠ a := src_ne_strs hs hl
      have da : d ≠ a := hs.ne nd
      have ld : l ≠ d := ne_of_none hl nd
      refine ⟨_, rfl, a, n, _, rfl, hs.new nd, by omega, by decide, by decide, fun G1 i k1 s1 i0 i1 => ⟨rfl, q _ _ _ ⟨d, _, rfl, rfl, nd, ((Keep.refl H).new nd).trans k1, s1, k1 _ _ da upd_same, k1 _ _ la (by rw [upd_ne ld]; exact hl)⟩⟩⟩
    rintro _ _ H1 ⟨d, b, rfl, rfl, ndd, kH1, sH1, hd1, hl1⟩
    have la : l ≠ a := src_ne_strs hs hl
    have da : d ≠ a := hs.ne ndd
    have ld : l ≠ d := ne_of_none hl ndd
    cases b with
    | true =>
      refine ⟨_, rfl, true, rfl, ⟨Nat.zero_le _, fun u nu => ⟨u, rfl, ⟨[], SqL.of upd_same⟩, ?_⟩⟩⟩
      have su := Lw.Same.new (o := .lst []) (Same.refl H1) nu
      refine for_list (xs := []) (fun j σ G => (∃ v4 v5 : Option V, σ = [some (.ref a), some (.ref l), some (.ref d), some (.bl true), v4, v5]) ∧ G = upd H1 u (.lst [])) ⟨⟨_, _, rfl⟩, rfl⟩ (fun j σ G _ h => by rw [h.2]; exact SqL.of upd_same) (fun j x σ G hx => by cases hx) ?_
      rintro σ G ⟨⟨v4, v5, rfl⟩, rfl⟩
      refine ⟨_, rfl, k d [] _ ndd (kH1.new nu) ((sH1.new nu).mono (by omega)) (su _ _ hd1) RowOk.nil fun key m => (List.not_mem_nil m).elim⟩
    | false =>
    refine ⟨_, rfl, false, rfl, ⟨_, rfl, l, rfl, ⟨_, SqL.of hl1⟩, ?_⟩⟩
    refine for_list (xs := ws.map V.str) (fun j σ G => ∃ (v3 v4 : Option V) (kvs : List (Key × V)), σ = [some (.ref a), some (.ref l), some (.ref d), some (.bl false), v3, v4] ∧ Keep a H G ∧ Src G a (n + 1 + 3 * j) ∧ G l = some (.lst (ws.map V.str)) ∧ G d = some (.dK kvs) ∧ RowOk kvs ∧ kvs.length ≤ j ∧ ∀ key ∈ kvs.map (·.1), ∃ z ∈ ws.take j, key = Sum.inr z)
      ⟨_, _, [], rfl, kH1, sH1, hl1, hd1, RowOk.nil, Nat.le_refl _, fun _ h => (List.not_mem_nil h).elim⟩ (fun j σ G _ ⟨_, _, _, _, _, _, h, _⟩ => SqL.of h) ?_ ?_
    · rintro j x σ G hx ⟨v3, v4, kvs, rfl, kG, sG, gl, gd, rk, lk, mk⟩
      rw [List.getElem?_map] at hx
      obtain ⟨z, hz, rfl⟩ := Option.map_eq_some_iff.mp hx
      have hj : j < ws.length := (List.getElem?_eq_some_iff.mp hz).1
      have hzw : z ∈ ws := List.mem_of_getElem? hz
      have ht : ws.take (j + 1) = ws.take j ++ [z] := by rw [List.take_add_one, hz]; rfl
      have nz : z ∉ ws.take j := fun m => by
        have nw2 : (ws.take j ++ ws.drop j).Nodup := by rw [List.take_append_drop]; exact nw
        have hd := List.drop_eq_getElem_cons hj
        rw [(List.getElem?_eq_some_iff.mp hz).2] at hd
        exact (List.nodup_append.mp nw2).2.2 z m z (by rw [hd]; exact List.mem_cons_self) rfl
      have nk : (Sum.inr z : Key) ∉ kvs.map (·.1) := fun m => by
        obtain ⟨y, hy, e⟩ := mk _ m
        cases e
        exact nz hy
      have up : ∀ key ∈ kvs.map (·.1), ∃ y ∈ ws.take (j + 1), key = Sum.inr y := fun key m => by
        obtain ⟨y, hy, e⟩ := mk key m
        exact ⟨y, by rw [ht]; exact List.mem_append_left _ hy, e⟩
      have up2 : ∀ (v : V), ∀ key ∈ (kvs ++ [((Sum.inr z : Key), v)]).map (·.1), ∃ y ∈ ws.take (j + 1), key = Sum.inr y := fun v key m => by
        rw [List.map_append] at m
        rcases List.mem_append.mp m with m | m
        · exact up key m
        · exact ⟨z, by rw [ht]; simp, by simpa using m⟩
      refine g_name ?_
      refine sq_set (fun x G1 => ∃ kind : Int, x = .int kind ∧ Keep a G G1 ∧ Src G1 a (n + 1 + 3 * j + 1)) (fun Q q => ⟨_, rfl, a, _, _, rfl, sG, by omega, by decide, by decide, fun G1 i k1 s1 _ _ => q _ _ ⟨i, rfl, k1, s1⟩⟩) ?_
      rintro _ G1 ⟨kind, rfl, k1, s1⟩
      have put : ∀ (G2 : Hp) (v : V), Keep a G1 G2 → Src G2 a (n + 1 + 3 * j + 3) → IntN v → ∃ (v3' v4' : Option V) (kvs' : List (Key × V)), [some (V.ref a), some (.ref l), some (.ref d), some (.bl false), some (.str z), some (.int kind)] = [some (.ref a), some (.ref l), some (.ref d), some (.bl false), v3', v4'] ∧ Keep a H (upd G2 d (.dK (putK kvs (.inr z) v))) ∧ Src (upd G2 d (.dK (putK kvs (.inr z) v))) a (n + 1 + 3 * (j + 1)) ∧ (upd G2 d (.dK (putK kvs (.inr z) v))) l = some (.lst (ws.map V.str)) ∧ (upd G2 d (.dK (putK kvs (.inr z) v))) d = some (.dK kvs') ∧ RowOk kvs' ∧ kvs'.length ≤ j + 1 ∧ ∀ key ∈ kvs'.map (·.1), ∃ y ∈ ws.take (j + 1), key = Sum.inr y := fun G2 v k2 s2 hv => by
        have gl2 := k2 _ _ la (k1 _ _ la gl)
        refine ⟨_, _, kvs ++ [(.inr z, v)], rfl, keep_at ndd (kG.trans (k1.trans k2)), ?_, by rw [upd_ne ld]; exact gl2, by rw [upd_same, putK_new nk], rk.snoc nk (ww z hzw) hv (by omega), by rw [List.length_append]; show kvs.length + 1 ≤ j + 1; omega, up2 v⟩
        obtain ⟨x1, x2, x3, y1, y2⟩ := s2.mono (show n + 1 + 3 * j + 3 ≤ n + 1 + 3 * (j + 1) by omega)
        exact ⟨x1, x2, x3, by rw [upd_ne da.symm]; exact y1, y2⟩
      refine ⟨_, rfl, _, _, rfl, rfl, _, rfl, ?_⟩
      refine bool_ite (fun _ => ?_) (fun _ => ?_)
      · refine ⟨_, rfl, _, _, rfl, rfl, ⟨by decide, by decide, by decide⟩, a, _, _, rfl, s1, by omega, by decide, by decide +kernel, fun G2 i k2 s2 => ?_⟩
        have gd2 := k2 _ _ da (k1 _ _ da gd)
        exact ⟨_, rfl, _, rfl, d, _, rfl, DPut.k (k := .inr z) gd2 (by omega), put G2 (.int i) k2 s2 (.inl ⟨i, rfl⟩)⟩
      · refine ⟨_, rfl, rfl, _, rfl, ?_⟩
        refine bool_ite (fun _ => ?_) (fun _ => ?_)
        · have gd2 := k1 _ _ da gd
          exact ⟨_, rfl, _, rfl, d, _, rfl, DPut.k (k := .inr z) gd2 (by omega), put G1 .non (fun _ _ _ h => h) (s1.mono (by omega)) (.inr rfl)⟩
        · exact ⟨_, _, kvs, rfl, kG.trans k1, s1.mono (by omega), k1 _ _ la gl, k1 _ _ da gd, rk, by omega, up⟩
    · rintro σ G ⟨v3, v4, kvs, rfl, kG, sG, gl, gd, rk, lk, mk⟩
      refine ⟨_, rfl, k d kvs G ndd kG (sG.mono (by simp only [List.length_map]; omega)) gd rk fun key m => ?_⟩
      obtain ⟨y, hy, e⟩ := mk key m
      exact ⟨y, List.mem_of_mem_take hy, e⟩
end
end Lw

set_option Elab.async false
set_option linter.all false
set_option maxRecDepth 100000
set_option maxHeartbeats 40000000
namespace Lw
open PySem PySem.Spec PyProof.Rows L2
abbrev sPlan : Stmt := top 40
section
variable {P : Program} {w : World} {K : PySem.W.Frag} {mg : Str → Option Value} {base : Heap}
/-! what the law does to a copy, one after the other -/
def PlanE (N G : Hp) (cols : List Str) (keys feeds : List Int) (x : V) : Prop := ∃ (t c : Addr) (z : Str) (key f : Int) (kvs : List (Key × V)), x = .ref t ∧ N c = none ∧ G t = some (.tup [.str z, .int key, .ref c, .int f]) ∧ G c = some (.dK kvs) ∧ RowOk kvs ∧ (∀ k ∈ kvs.map (·.1), ∃ y ∈ cols, k = Sum.inr y) ∧ z ∈ deeds ∧ (z = "take" → kvs = []) ∧ key ∈ keys ∧ f ∈ feeds
theorem PlanE.move {N H G : Hp} {cols : List Str} {keys feeds : List Int} {x : V} (k : ∀ (b : Addr) (o : HO), (∀ xs, o ≠ .lst xs) → H b = some o → G b = some o) (h : PlanE N H cols keys feeds x) : PlanE N G cols keys feeds x := by
  obtain ⟨t, c, z, key, f, kvs, e, h0, h1, h2, h3⟩ := h
  exact ⟨t, c, z, key, f, kvs, e, h0, k _ _ (fun xs e => by cases e) h1, k _ _ (fun xs e => by cases e) h2, h3⟩
structure TxtPl (mg : Str → Option Value) : Prop where
  range : mg "range" = none
  max : mg "max" = none
  min : mg "min" = none
  len : mg "len" = none
def spPlan (K : PySem.W.Frag) : Sp := fun vs H Q _ => ∃ (s cl kl fl : Addr) (ns : List Int) (cols : List Str) (keys feeds : List Int) (most : Int), vs = [.ref s, .ref cl, .ref kl, .ref fl, .int most] ∧ SqL K H s (ns.map V.int) ∧ ns.length ≤ 63 ∧ H cl = some (.lst (cols.map V.str)) ∧ cols.Nodup ∧ (∀ z ∈ cols, IsWord z) ∧ cols.length ≤ 8 ∧
  H kl = some (.lst (keys.map V.int)) ∧ keys ≠ [] ∧ keys.length ≤ 100 ∧ H fl = some (.lst (feeds.map V.int)) ∧ feeds ≠ [] ∧ feeds.length ≤ 100 ∧ 0 ≤ most ∧ most ≤ 100 ∧ ∀ l es G, Same H G → G l = some (.lst es) → es.length ≤ 100 → (∀ e ∈ es, PlanE H G cols keys feeds e) → Q (.ref l) G
abbrev nPlan : List Str := ["script", "columns", "keys", "feeds", "most", "found", "at", "source", "deed", "cells"]
theorem scPlan : FnScope nPlan ["script", "columns", "keys", "feeds", "most"] (defScope sPlan) := ⟨rfl, rfl, rfl, by decide +kernel, rfl, by decide +kernel, by decide +kernel⟩
theorem ok_plan {f : Addr} {fd : FuncData} (F : FnP K "_law_plan" sPlan f fd) (T : TxtPl mg) (cS : Cal P w K mg base CX0 "_law_source" 1 ["script", "at"] (spSource K)) (cP : Cal P w K mg base CX0 "_law_pick" 2 ["source", "some"] (spOf K)) (cC : Cal P w K mg base CX0 "_law_cells" 3 ["source", "names"] spCells) : FnOk P w K mg base CX0 4 f fd ["script", "columns", "keys", "feeds", "most"] (spPlan K) := by
  refine F.ok scPlan (fun vs H Q E h => ?_) (fun cdv A outer s0 H vs Q E hr h => ?_)
  · obtain ⟨s, cl, kl, fl, ns, cols, keys, feeds, most, rfl, _⟩ := h
    rfl
  · obtain ⟨s, cl, kl, fl, ns, cols, keys, feeds, most, rfl, hS, lns, hcl, ncl, wcl, lcl, hkl, nkl, lkl, hfl, nfl, lfl, m0, m1, k⟩ := h
    have nd := scPlan.nd
    have h1 : Room 1 _ := hr.mono (by decide)
    have h2 : Room 2 _ := hr.mono (by decide)
    have h3 : Room 3 _ := hr.mono (by decide)
    have h9 : sizeLine = 16777216 := by decide
    refine ⟨_, PSs.nox (pss_cons (ps_set (i := 5) nd rfl (Or.inl rfl) (pe_lst pa_nil))
      (pss_cons (ps_for PassesOwn.never rfl (pi_range2 rfl T.range (pa_cons pe_int (pa_cons (pe_callB (call_max2 rfl) (by rfl) T.max (by decide +kernel) (pa_cons pe_int (pa_cons (pe_callB (call_min2 rfl) (by rfl) T.min (by decide +kernel) (pa_cons (pe_op op_add (pv 4) pe_int) (pa_cons (pe_callB call_len_seq (by rfl) T.len PySem.boot_len (pa_cons (pv 0) pa_nil)) pa_nil))) pa_nil))) pa_nil))) (pg_name (i := 6) nd rfl (Or.inl rfl))
        (pss_cons (ps_set (i := 7) nd rfl (Or.inl rfl) (pe_cal cS h1 (pa_cons (pv 0) (pa_cons (pv 6) pa_nil))))
        (pss_cons (ps_set (i := 8) nd rfl (Or.inl rfl) (pe_cal cP h2 (pa_cons (pv 7) (pa_cons (pe_lst (pa_cons pe_str (pa_cons pe_str (pa_cons pe_str (pa_cons pe_str (pa_cons pe_str pa_nil)))))) pa_nil))))
        (pss_cons (ps_set (i := 9) nd rfl (Or.inl rfl) (pe_ifExp (pt_cmpR op_eq (pv 8) pe_str (nomark _)) pe_dnewK (pe_cal cC h3 (pa_cons (pv 7) (pa_cons (pv 1) pa_nil)))))
        (pss_one (ps_expr (pe_bm PySem.F.plainAttrs_list PySem.F.slot_list_append PySem.F.type_list_append mt_append (pv 5) (pa_cons (pe_tup (pa_cons (pv 8) (pa_cons (pe_cal cP h2 (pa_cons (pv 7) (pa_cons (pv 2) pa_nil))) (pa_cons (pv 9) (pa_cons (pe_cal cP h2 (pa_cons (pv 7) (pa_cons (pv 3) pa_nil))) pa_nil))))) pa_nil))))))))
      (pss_one (ps_ret (pv 5))))), ?_⟩
    refine sq_set (fun x G => ∃ l, x = .ref l ∧ H l = none ∧ G = upd H l (.lst [])) (fun Q q => ⟨(by show 0 ≤ sizeLine; decide), fun l nl => q _ _ ⟨l, rfl, nl, rfl⟩⟩) ?_
    rintro _ _ ⟨l, rfl, nl, rfl⟩
    have sl : Same H (upd H l (.lst [])) := Lw.Same.new (Same.refl H) nl
    have gl0 : (upd H l (.lst [])) l = some (.lst []) := upd_same
    generalize upd H l (.lst []) = Hl at sl gl0 ⊢
    refine ⟨_, rfl, _, _, rfl, rfl, _, rfl, s, _, rfl, .inl (sl.seq hS), _, _, rfl, _, _, rfl, _, _, rfl, ⟨by decide, by decide, ?_, ?_⟩, ?_⟩
    · rw [List.length_map]; split <;> (try split) <;> omega
    · rw [List.length_map]; split <;> (try split) <;> omega
    generalize hn : Int.toNat _ = n
    have ln : n ≤ 100 := by
      rw [← hn, List.length_map]
      split <;> (try split) <;> omega
    refine for_range (lo := 1) (fun i σ G => ∃ (v6 v7 v8 v9 : Option V) (es : List V), σ = [some (.ref s), some (.ref cl), some (.ref kl), some (.ref fl), some (.int most), some (.ref l), v6, v7, v8, v9] ∧ Same H G ∧ G l = some (.lst es) ∧ es.length = i ∧ ∀ e ∈ es, PlanE H G cols keys feeds e)
      ⟨_, _, _, _, [], rfl, sl, gl0, rfl, fun _ h => (List.not_mem_nil h).elim⟩ ?_ ?_
    · rintro i σ G hi ⟨v6, v7, v8, v9, es, rfl, sG, gl, hes, hpl⟩
      refine g_name ?_
      refine sq_set (fun x G1 => ∃ p, x = .ref p ∧ G p = none ∧ Same G G1 ∧ Src G1 p 0) (fun Q q => ⟨_, rfl, _, rfl, s, ns, _, rfl, sG.seq hS, by omega, by omega, by omega, fun p G1 np s1 hs => q _ _ ⟨p, rfl, np, s1, hs⟩⟩) ?_
      rintro _ G1 ⟨p, rfl, np, s1, S1⟩
      refine sq_set (fun x G2 => ∃ z, x = .str z ∧ z ∈ deeds ∧ Keep p G1 G2 ∧ Src G2 p 1) (fun Q q => ?_) ?_
      · refine ⟨_, rfl, (by show 5 ≤ sizeLine; decide), fun L nL => ?_⟩
        refine ⟨p, L, 0, [.str "put", .str "change", .str "take", .str "put", .str "change"], rfl, S1.new nL, by decide, S1.ne nL, SqL.of upd_same, (fun e => by cases e), by decide, fun G2 x k2 s2 hx => ?_⟩
        have hz : ∃ z, x = .str z ∧ z ∈ deeds := by
          simp only [List.mem_cons, List.not_mem_nil, or_false] at hx
          rcases hx with rfl | rfl | rfl | rfl | rfl
          · exact ⟨"put", rfl, by decide⟩
          · exact ⟨"change", rfl, by decide⟩
          · exact ⟨"take", rfl, by decide⟩
          · exact ⟨"put", rfl, by decide⟩
          · exact ⟨"change", rfl, by decide⟩
        obtain ⟨z, rfl, hz⟩ := hz
        exact q _ _ ⟨z, rfl, hz, ((Keep.refl G1).new nL).trans k2, s2⟩
      rintro _ G2 ⟨z, rfl, hz, k2, S2⟩
      have pc : ∀ {b : Addr} {o : HO}, G b = some o → b ≠ p := fun e => ne_of_none e np
      have g2 : ∀ {b : Addr} {o : HO}, G b = some o → G2 b = some o := fun e => k2 _ _ (pc e) (s1 _ _ e)
      refine sq_set (fun x G3 => ∃ c kvs, x = .ref c ∧ G2 c = none ∧ Keep p G2 G3 ∧ Src G3 p 26 ∧ G3 c = some (.dK kvs) ∧ RowOk kvs ∧ (∀ k ∈ kvs.map (·.1), ∃ y ∈ cols, k = Sum.inr y) ∧ (z = "take" → kvs = [])) (fun Q q => ?_) ?_
      · refine ⟨_, rfl, rfl, _, rfl, str_it (fun e => ?_) (fun e => ?_)⟩
        · intro c nc
          exact q _ _ ⟨c, [], rfl, nc, (Keep.refl G2).new nc, (S2.new nc).mono (by decide), upd_same, RowOk.nil, fun _ h => (List.not_mem_nil h).elim, fun _ => rfl⟩
        · exact ⟨_, rfl, _, rfl, p, cl, 1, cols, rfl, S2, by decide, g2 (sG _ _ hcl), ncl, wcl, lcl, fun c kvs G3 nc k3 S3 hc rk sub => q _ _ ⟨c, kvs, rfl, nc, k3, S3, hc, rk, sub, fun e2 => (e e2).elim⟩⟩
      rintro _ G3 ⟨c, kvs, rfl, nc, k3, S3, hc, rk, sub, tk⟩
      have g3 : ∀ {b : Addr} {o : HO}, G b = some o → G3 b = some o := fun e => k3 _ _ (pc e) (g2 e)
      have cp : c ≠ p := S2.ne nc
      have klp : kl ≠ p := pc (sG _ _ hkl)
      have flp : fl ≠ p := pc (sG _ _ hfl)
      have lp : l ≠ p := pc gl
      have int_mem : ∀ {x : V} {ks : List Int}, x ∈ ks.map V.int → ∃ i, x = .int i ∧ i ∈ ks := fun h => by
        obtain ⟨i, hi, e⟩ := List.mem_map.mp h
        exact ⟨i, e.symm, hi⟩
      refine ⟨_, rfl, .inl ⟨rfl, _, SqL.of (g3 gl)⟩, _, rfl, _, rfl, _, rfl, p, kl, 26, keys.map V.int, rfl, S3, by decide, klp, SqL.of (g3 (sG _ _ hkl)), (fun e => nkl (List.map_eq_nil_iff.mp e)), by rw [List.length_map]; omega, fun G4 x k4 S4 hx => ?_⟩
      obtain ⟨key, rfl, hkey⟩ := int_mem hx
      refine ⟨_, rfl, _, rfl, _, rfl, p, fl, 27, feeds.map V.int, rfl, S4, by decide, flp, SqL.of (k4 _ _ flp (g3 (sG _ _ hfl))), (fun e => nfl (List.map_eq_nil_iff.mp e)), by rw [List.length_map]; omega, fun G5 x k5 S5 hx => ?_⟩
      obtain ⟨fe, rfl, hfe⟩ := int_mem hx
      have g5 : ∀ {b : Addr} {o : HO}, G b = some o → G5 b = some o := fun e => k5 _ _ (pc e) (k4 _ _ (pc e) (g3 e))
      refine ⟨(by show 4 ≤ sizeLine; decide), fun t nt => ?_⟩
      have tl : l ≠ t := ne_of_none (g5 gl) nt
      refine ⟨l, es, _, rfl, rfl, by rw [upd_ne tl]; exact g5 gl, by omega, _, _, _, _, es ++ [.ref t], rfl, ?_, upd_same, by rw [List.length_append, hes]; rfl, fun e he => ?_⟩
      · refine same_at nl fun b o h => ?_
        have hb := g5 (sG _ _ h)
        rw [upd_ne (ne_of_none hb nt)]
        exact hb
      · have mv : ∀ (b : Addr) (o : HO), (∀ xs, o ≠ .lst xs) → G5 b = some o → (upd (upd G5 t (.tup [.str z, .int key, .ref c, .int fe])) l (.lst (es ++ [.ref t]))) b = some o := fun b o no h => by
          have bl : b ≠ l := fun e => by
            subst e
            rw [g5 gl] at h
            exact no _ (Option.some.inj h).symm
          rw [upd_ne bl, upd_ne (ne_of_none h nt)]
          exact h
        rcases List.mem_append.mp he with h | h
        · exact (hpl e h).move fun b o no hb => mv b o no (g5 hb)
        · rw [List.mem_singleton.mp h]
          have hc5 := k5 _ _ cp (k4 _ _ cp hc)
          have ncH : H c = none := by
            cases e : H c with
            | none => rfl
            | some o => rw [g2 (sG _ _ e)] at nc; cases nc
          refine ⟨t, c, z, key, fe, kvs, rfl, ncH, ?_, mv _ _ (fun xs e => by cases e) hc5, rk, sub, hz, tk, hkey, hfe⟩
          rw [upd_ne tl.symm]
          exact upd_same
    · rintro σ G ⟨v6, v7, v8, v9, es, rfl, sG, gl, hes, hpl⟩
      exact ⟨_, rfl, k l es G sG gl (by omega) hpl⟩
end
end Lw

set_option Elab.async false
set_option linter.all false
set_option maxRecDepth 100000
set_option maxHeartbeats 1000000
namespace Le
open PySem PySem.Spec PyProof.Rows L2
/-! a list of anything compared with an empty one -/
section
variable {X : Cx}
theorem op_eqNil (hu : X.A.units < cLine) : OpR X (compareOp .Eq) (fun x y H Q => ∃ (a b : Addr) (xs : List V), x = .ref a ∧ y = .ref b ∧ SqL X.K H a xs ∧ SqL X.K H b [] ∧ Q (.bl xs.isEmpty) H) := by
  intro pins s σ H x y v u Q I rx ry h
  obtain ⟨a, b, xs, rfl, rfl, ha, hb, q⟩ := h
  obtain rfl : v = Value.ref a := rx
  obtain rfl : u = Value.ref b := ry
  obtain ⟨i1, r1, p1, _⟩ := I.list ha
  obtain ⟨i2, r2, p2, _⟩ := I.list hb
  have l1 := r1.length
  have l2 := r2.length
  cases i2 with
  | cons w ws => cases r2
  | nil =>
    cases xs with
    | nil =>
      cases i1 with
      | cons w ws => cases r1
      | nil => exact SeqAt.eq_listAt (e := fun _ => true) p1.isList p2.isList rfl hu (fun j h1 _ => absurd h1 (Nat.not_lt_zero _)) ⟨.bl true, H, I, rfl, q⟩
    | cons z zs =>
      cases i1 with
      | nil => cases r1
      | cons w ws => exact SeqAt.eq_list_lengthsAt p1.isList p2.isList (by rfl) hu ⟨.bl false, H, I, rfl, q⟩
end
end Le

set_option Elab.async false
set_option linter.all false
set_option maxRecDepth 100000
set_option maxHeartbeats 40000000
namespace Lw
open PySem PySem.Spec PyProof.Rows L2
abbrev sPlace : Stmt := top 41
section
variable {P : Program} {w : World} {K : PySem.W.Frag} {mg : Str → Option Value} {base : Heap}
/-! copy[key] and copy.holders(key) -/
structure CopF (P : Program) (w : World) (K : PySem.W.Frag) (mg : Str → Option Value) (base : Heap) (CY CH : Addr) : Prop where
  cl : Cls K CY
  con : ∃ g fd, Oc.InC K CY g ∧ FnOk P w K mg base CX0 1 g fd ["self", "x"] (spConC CY CH) ∧ Binds K fd ["self", "x"] []
  get : ∃ g fd, Gi.GetC K CY g ∧ FnOk P w K mg base CX0 2 g fd ["self", "at"] (spGetI CY CH) ∧ Binds K fd ["self", "at"] []
  hol : ∃ g fd, Meth K CY "holders" g ∧ FnOk P w K mg base CX0 1 g fd ["self", "key"] (spHolders CY CH) ∧ Binds K fd ["self", "key"] []
def spPlace (CY CH : Addr) : Sp := fun vs H Q _ => ∃ (p d h : Addr) (b : Hab) (cols : List Str) (n : Nat) (st : Int → Option (List V × List Int)) (key : Int), vs = [.ref p, .int key] ∧ CopyOk CY CH H p d h b cols n st ∧ (∀ row fs, st key = some (row, fs) → row.length = cols.length) ∧
  ∀ t x u G, Same H G → G t = some (.tup [x, .ref u]) → RowK G x cols (st key) → G u = some (.tup ((holdD (st key)).map V.int)) → Q (.ref t) G
theorem scPlace : FnScope ["copy", "key"] ["copy", "key"] (defScope sPlace) := ⟨rfl, rfl, rfl, by decide +kernel, rfl, by decide +kernel, by decide +kernel⟩
theorem ok_place {CY CH f : Addr} {fd : FuncData} (F : FnP K "_law_place" sPlace f fd) (c : CopF P w K mg base CY CH) : FnOk P w K mg base CX0 4 f fd ["copy", "key"] (spPlace CY CH) := by
  obtain ⟨gC, fC, WC, FC, bC⟩ := c.con
  obtain ⟨gG, fG, WG, FG, bG⟩ := c.get
  obtain ⟨gH, fH, WH, FH, bH⟩ := c.hol
  refine F.ok scPlace (fun vs H Q E h => ?_) (fun cdv A outer s0 H vs Q E hr h => ?_)
  · obtain ⟨p, d, h, b, cols, n, st, key, rfl, _⟩ := h
    rfl
  · obtain ⟨p, d, h, b, cols, n, st, key, rfl, co, hl, k⟩ := h
    have h1 : Room 1 _ := hr.mono (by decide)
    refine ⟨_, PSs.nox (pss_one (ps_ret (pe_tup (pa_cons (pe_ifExp (pt_cmpR (Oc.op_inO WC FC bC h1) (pv 1) (pv 0) (by rfl)) (Gi.pe_own WG FG bG hr (pv 0) (pv 1)) pe_non) (pa_cons (pe_meth (pv 0) c.cl WH FH h1 bH .nil pass0 (pa_cons (pv 1) pa_nil)) pa_nil))))), ?_⟩
    obtain ⟨dx, t0, l, mks, ks, g1, _⟩ := co.at_
    refine ⟨_, rfl, _, rfl, p, dx, _, rfl, g1, p, d, h, b, cols, n, st, key, rfl, co, _, rfl, _, rfl, ?_⟩
    have fin : ∀ (x : V) (G : Hp), Same H G → RowK G x cols (st key) → (tCons (tMeth CY "holders" (spHolders CY CH) [] E0 (tVar 0) (tCons (tVar 1) tNil)) tNil) [some (.ref p), some (.int key)] G fun vs G2 => (x :: vs).length ≤ sizeLine ∧ ∀ a, G2 a = none → Q (.ref a) (upd G2 a (.tup (x :: vs))) := fun x G sG hx => by
      refine ⟨_, rfl, p, dx, _, rfl, sG _ _ g1, rfl, _, rfl, p, d, h, b, cols, n, st, key, rfl, co.same sG, fun u G2 s2 hu => ⟨(by show 2 ≤ sizeLine; decide), fun t nt => ?_⟩⟩
      have s3 := Lw.Same.new (o := .tup [x, .ref u]) (Same.refl G2) nt
      refine k t x u _ (sG.trans (s2.trans s3)) upd_same ?_ (s3 _ _ hu)
      rcases hx with hx | ⟨e, row, fs, e1, e2, e3⟩
      · exact .inl hx
      · exact .inr ⟨e, row, fs, e1, e2, s3 _ _ (s2 _ _ e3)⟩
    cases hs : st key with
    | none =>
      refine itFb rfl ?_
      exact fin .non H (Same.refl H) (.inl ⟨hs, rfl⟩)
    | some q =>
      obtain ⟨row, fs⟩ := q
      refine itTb rfl ⟨_, rfl, _, rfl, p, dx, _, rfl, g1, p, d, h, b, cols, n, st, key, row, fs, rfl, co, hs, hl row fs hs, fun e ne => ?_⟩
      exact fin (.ref e) _ (Lw.Same.new (Same.refl H) ne) (.inr ⟨e, row, fs, hs, rfl, upd_same⟩)
end
end Lw

set_option Elab.async false
set_option linter.all false
set_option maxRecDepth 100000
set_option maxHeartbeats 4000000
namespace Po
open PySem PySem.Spec PyProof.Rows L2
/-! promises that may speak of the heap's size at the call -/
structure FnZ (P : Program) (w : World) (K : PySem.W.Frag) (mg : Str → Option Value) (base : Heap) (X0 : CXT) (k : Nat) (f : Addr) (fd : FuncData) (ps : List Str) (sp : Nat → Sp) : Prop where
  few : ∀ n vs H Q E, sp n vs H Q E → vs.length = ps.length
  goes : ∀ (A : Around) (fs : List Env) (s : Shared) (H : Hp) (ar : Args) (us : List Value) (vs : List V) (Q : VK) (E : XK), Room k A → Env0 P w K mg base A fs s H → BindsTo s fd ar (ps.zip us) →
    Vals vs us → sp s.heap.objs.size vs H Q E → codeAny (model P w) A (.call (.ref f) ar) (CR X0 fs P w H s Q E) s
section
variable {P : Program} {w : World} {K : PySem.W.Frag} {mg : Str → Option Value} {base : Heap} {X0 : CXT} {k : Nat} {x qual : Str} {params : Arguments} {bd : List Stmt} {scope : Scope} {dvs : List V} {kws : List (Str × V)} {f : Addr} {fd : FuncData} {N ps : List Str} {sp : Nat → Sp}
theorem okZ (F : FunD K x qual params bd scope dvs kws f fd) (S : FnScope N ps scope) (few : ∀ n vs H Q E, sp n vs H Q E → vs.length = ps.length)
    (does : ∀ (cd : Value) (A : Around) (fs : List Env) (s : Shared) (H : Hp) (vs : List V) (Q : VK) (E : XK), Room k (A.deeper (envOfC qual scope s.heap.objs.size f cd)) → sp s.heap.objs.size vs H Q E →
      ∃ t, PSs (cxOf X0 P w K mg base N qual scope f cd A fs s H E) bd t ∧ t { nx := fun _ G => Q .non G, rt := Q } (start N vs) H) : FnZ P w K mg base X0 (k + 1) f fd ps sp := by
  obtain ⟨oc, od, dV, kV, doc, pm, an, cd, ct, sl, rfl, here, code, _, _⟩ := F.ex
  constructor
  · exact few
  intro A fs s H ar us vs Q E room e0 bt rel pr
  have inK : K.In s.heap := e0.mod.kin.keeps fun b o q => (e0.bs b o q).1
  have free : s.heap.NoLimit := e0.mod.nolimit.keeps fun b o q => (e0.bs b o q).1
  have kinds : ∀ y ∈ ps.zip us, scope.names.lookup y.1 = some .local ∨ (scope.names.lookup y.1 = some .cell ∧ ((cellsFrom (s.heap.objs.size + 1) scope.names []).lookup y.1).isSome = true) := by
    rintro ⟨n, v⟩ hy
    have hn := S.par n (List.of_mem_zip hy).1
    exact hn.imp id fun q => ⟨q, PySem.W.cellsFrom_some _ _ _ (.inl q)⟩
  refine codeAny_call_function room.depth (inK _ _ here) rfl S.co S.gen rfl (PySem.W.codeRec_of inK code) (bt _ _ _ _ (wpAny_newFunctionEnv_cells S.kind kinds ?_))
  intro env he s1 st
  cases he
  refine ⟨free.keeps st.toInCall.keep, codeAny_func ?_⟩
  obtain ⟨t, ht, go⟩ := does cd A fs s H vs Q E (room.deeper _) pr
  have I : Inv (cxOf X0 P w K mg base N qual scope f cd A fs s H E) [] (start N vs) H s1 := inv_start S room.hd e0 (few _ _ _ _ _ pr) rel st
  have out : ∀ {σ : L2.St} {G : Hp} {v : V} {u : Value} {s2 : Shared}, Inv (cxOf X0 P w K mg base N qual scope f cd A fs s H E) [] σ G s2 → RelV v u → Q v G → CE fs P w H s Q u s2 := by
    intro σ G v u s2 J r q
    exact ⟨v, G, J.os, J.bare, J.base, J.hok, r, q⟩
  apply wpAny_mono (ht.run [] s1 (start N vs) H _ I go)
  · intro fl s2 z
    match fl, z with
    | .ret u, z => obtain ⟨v, σ, G, J, r, q⟩ := z; exact out J r q
    | .next, z => obtain ⟨σ, G, J, q⟩ := z; exact out (u := Value.none) J (show RelV V.non Value.none from rfl) q
    | .brk, z => obtain ⟨_, _, _, q⟩ := z; exact q.elim
    | .cont, z => obtain ⟨_, _, _, q⟩ := z; exact q.elim
  · exact fun _ _ z => z
end
/-! for x in o, o an instance whose own __iter__ gives a list's iterator -/
structure OwnI (K : PySem.W.Frag) (C fi : Addr) : Prop where
  it : PySem.W.findIn K (.ref C) "__iter__" = some (some (.ref fi))
  itF : PySem.W.isFn K (.ref fi) = true
def iOwn (K : PySem.W.Frag) (C : Addr) (sp : Nat → Sp) (te : TE) : TI := fun σ H R => te σ H fun x H1 => ∃ (a dx : Addr) (fs : List (PySem.Str × V)) (l : Addr) (zs : List V), x = .ref a ∧ H1 a = some (.ins C dx fs) ∧ H1 l = some (.lst zs) ∧
  (∀ n, sp n [.ref a] H1 (fun v G => ∃ it, v = .ref it ∧ H1 it = none ∧ n ≤ it ∧ G = upd H1 it (ItO l it 0)) E0) ∧ R (Itl K l) H1
section
variable {X : Cx} {C fi : Addr} {k : Nat} {fd : FuncData} {ps : List PySem.Str} {sp : Nat → Sp} {e tg : Expr} {te : TE}
theorem pi_own (W : OwnI X.K C fi) (F : FnZ X.prog X.w X.K X.mg X.base CX0 k fi fd ps sp) (bt : Binds X.K fd ps []) (room : Room k X.A) (he : PE X e te) : PI X tg e (iOwn X.K C sp te) := by
  constructor
  intro pins s σ H R I h
  refine thn (he.run pins s σ H _ I h) fun v s1 hv => ?_
  obtain ⟨x, H1, I1, r1, a, dx, fs, l, zs, rfl, ha, hl, pr, q⟩ := hv
  cases (show v = Value.ref a from r1)
  obtain ⟨mA, J, _⟩ := ins_get I1.hok ha
  obtain ⟨od, J, _⟩ := J.look
  obtain ⟨m0, hF⟩ := I1.fr
  refine PySem.W.owit_iter hF I1.ok.mod.kin J W.it W.itF ?_
  have e := I1.env0
  have pr1 := pr s1.heap.objs.size
  have n : ([Value.ref a] : List Value).length = ps.length := F.few _ _ _ _ _ pr1
  have b1 := bt s1 [Value.ref a] I1.kIn (by rw [List.append_nil]; exact n)
  rw [List.append_nil] at b1
  refine wpAny_call (codeAny_mono (F.goes X.A X.stack s1 H1 ⟨[.ref a], []⟩ [.ref a] [.ref a] _ E0 room ⟨I1.ok.frames, e.mod, e.bs, e.bsz, e.funs, e.frf, e.hok, e.bare⟩ b1 (.cons (show RelV (.ref a) (Value.ref a) from rfl) .nil) pr1) ?_)
  intro rr s2 z
  match rr, z with
  | .error er, z => exact z.elim
  | .ok .next, z => exact z.elim
  | .ok .brk, z => exact z.elim
  | .ok .cont, z => exact z.elim
  | .ok (.ret u), z =>
    obtain ⟨v, G, I3, rv, itx, rfl, nit, sz, rfl⟩ := I1.after z
    obtain rfl : u = Value.ref itx := rv
    have ei : (upd H1 itx (ItO l itx 0)) itx = some (ItO l itx 0) := upd_same
    have eo := itO_get I3 ei
    show PySem.W.OwitIt _ _ _ _ _ _
    unfold PySem.W.OwitIt
    refine wpAny_specialOf (name := Str.ofString "__next__") ⟨_, eo, rfl⟩ slot_listiter_next.lookup ?_
    dsimp only
    have st : s2.heap.IsListIter itx l 0 := ⟨_, eo, rfl, rfl⟩
    have ei' := ei
    unfold ItO at ei'
    have dr : ItX.dropH (upd H1 itx (ItO l itx 0)) itx = H1 := ItX.dropH_upd nit
    refine ⟨itx, [itx], _, _, ItX.dropH (upd H1 itx (ItO l itx 0)) itx, rfl, ItX.inv_drop I3 ei', turn_list l itx, st, fun b hb => ?_, by rw [dr]; exact q⟩
    have eb : b = itx := by simpa using hb
    rw [eb]
    exact ItX.inv_fp I3 ei (Nat.le_trans I1.sz sz)
end
end Po

set_option Elab.async false
set_option linter.all false
set_option maxRecDepth 100000
set_option maxHeartbeats 400000
namespace Lw
open PySem PySem.Spec PyProof.Rows L2
section
variable {X : Cx}
theorem all3 (e : Nat → Bool) (a b c : Bool) (h0 : e 0 = a) (h1 : e 1 = b) (h2 : e 2 = c) : ((List.range 3).all e && (3 == 3)) = (a && (b && c)) := by
  subst h0 h1 h2
  show (e 0 && (e 1 && (e 2 && true)) && true) = _
  simp
def three3 (a b c : Bool) (j : Nat) : Bool := if j = 0 then a else if j = 1 then b else c
/-- (text, integer, dict) == (text, integer, dict) -/
def rEqT3 : R2 := fun x y H Q => ∃ (a b d d2 : Addr) (z z2 : Str) (k k2 : Int) (ks ls : List (Key × V)), x = .ref a ∧ y = .ref b ∧ H a = some (.tup [.str z, .int k, .ref d]) ∧ H b = some (.tup [.str z2, .int k2, .ref d2]) ∧ H d = some (.dK ks) ∧ H d2 = some (.dK ls) ∧ RowOk ks ∧ RowOk ls ∧
  Q (.bl (decide (z = z2) && (decide (k = k2) && sameK ks ls))) H
theorem strEq_dec (a b : Str) : eqV (.str a) (.str b) = decide (a = b) := by
  show (a == b) = _
  by_cases h : a = b
  · subst h
    rw [decide_eq_true rfl]
    exact beq_self_eq_true a
  · rw [decide_eq_false h]
    exact beq_eq_false_iff_ne.mpr h
theorem vals_3 {x y z : V} {us : List Value} (r : Vals [x, y, z] us) : ∃ u1 u2 u3, us = [u1, u2, u3] ∧ RelV x u1 ∧ RelV y u2 ∧ RelV z u3 := by
  cases r with
  | cons r1 t => cases t with
    | cons r2 t => cases t with
      | cons r3 t => cases t with
        | nil => exact ⟨_, _, _, rfl, r1, r2, r3⟩
theorem op_eq_t3 (hu : X.A.units + 64 < cLine) : OpR X (compareOp .Eq) rEqT3 := by
  intro pins s σ H x y v u Q I rx ry h
  obtain ⟨a, b, d, d2, z, z2, k, k2, ks, ls, rfl, rfl, ea, eb, ed, ed2, r1, r2, q⟩ := h
  obtain rfl : v = Value.ref a := rx
  obtain rfl : u = Value.ref b := ry
  obtain ⟨its, rv, t1, _⟩ := I.tuple (SqT.of (K := X.K) ea)
  obtain ⟨jts, rw', t2, _⟩ := I.tuple (SqT.of (K := X.K) eb)
  obtain ⟨_, ya, va, ra, da⟩ := (show ObjOk X.prog X.w H s.heap d (.dK ks) from I.hok d _ ed)
  obtain ⟨_, yb, vb, rb, db⟩ := (show ObjOk X.prog X.w H s.heap d2 (.dK ls) from I.hok d2 _ ed2)
  obtain ⟨u1, u2, u3, rfl, q1, q2, q3⟩ := vals_3 rv
  obtain ⟨w1, w2, w3, rfl, p1, p2, p3⟩ := vals_3 rw'
  obtain ⟨s1, rfl⟩ := q1
  obtain ⟨s2, rfl⟩ := q2
  obtain rfl : u3 = Value.ref d := q3
  obtain ⟨s3, rfl⟩ := p1
  obtain ⟨s4, rfl⟩ := p2
  obtain rfl : w3 = Value.ref d2 := p3
  have tr : PySem.W.EqTree X.prog X.w s 2 (.ref d) (.ref d2) (sameK ks ls) := by
    by_cases e : d = d2
    · subst e
      rw [ed] at ed2
      cases ed2
      rw [sameK_refl r1]
      exact .same
    · rw [← dict_all ra rb]
      exact .dicts (knd := mixKind X.prog X.w) (e := eK ks ls) e ya yb da db (dict_tree ra rb r1.nodup r1.2.1 r2.2.1)
  have l1 : PySem.W.EqTree X.prog X.w s 2 (.str z s1) (.str z2 s3) (decide (z = z2)) := .leaf fun A _ => by
    have h := eqAt_V (A := A) (s := s) (y := V.str z) (x := V.str z2) (u := .str z s1) (v := .str z2 s3) ⟨s1, rfl⟩ ⟨s3, rfl⟩ rfl rfl
    have e : eqV (.str z) (.str z2) = decide (z = z2) := strEq_dec z z2
    rw [e] at h
    exact h
  have l2 : PySem.W.EqTree X.prog X.w s 2 (.int k s2) (.int k2 s4) (decide (k = k2)) := .leaf fun A _ => by
    have h := eqAt_V (A := A) (s := s) (y := V.int k) (x := V.int k2) (u := .int k s2) (v := .int k2 s4) ⟨s2, rfl⟩ ⟨s4, rfl⟩ rfl rfl
    have e : eqV (.int k) (.int k2) = decide (k = k2) := by show (k == k2) = _; rfl
    rw [e] at h
    exact h
  have fin : EP X pins σ Q (.bool (decide (z = z2) && (decide (k = k2) && sameK ks ls))) s := ⟨.bl _, H, I, rfl, q⟩
  have key : ∀ (j : Nat) (h1 : j < [Value.str z s1, Value.int k s2, Value.ref d].toArray.size) (h2 : j < [Value.str z2 s3, Value.int k2 s4, Value.ref d2].toArray.size), PySem.W.EqTree X.prog X.w s 2 [Value.str z s1, Value.int k s2, Value.ref d].toArray[j] [Value.str z2 s3, Value.int k2 s4, Value.ref d2].toArray[j] (three3 (decide (z = z2)) (decide (k = k2)) (sameK ks ls) j) := fun j h1 h2 => by
    have hj : j < 3 := h1
    rcases (by omega : j = 0 ∨ j = 1 ∨ j = 2) with rfl | rfl | rfl
    · exact l1
    · exact l2
    · exact tr
  have e3 : ((List.range (min [Value.str z s1, Value.int k s2, Value.ref d].toArray.size [Value.str z2 s3, Value.int k2 s4, Value.ref d2].toArray.size)).all (three3 (decide (z = z2)) (decide (k = k2)) (sameK ks ls)) && [Value.str z s1, Value.int k s2, Value.ref d].toArray.size == [Value.str z2 s3, Value.int k2 s4, Value.ref d2].toArray.size) = (decide (z = z2) && (decide (k = k2) && sameK ks ls)) :=
    all3 _ _ _ _ rfl rfl rfl
  refine PySem.W.eq_tuplesT (n := 2) (e := three3 (decide (z = z2)) (decide (k = k2)) (sameK ks ls)) t1 t2 key (by omega) ?_
  rw [e3]
  exact fin
end
end Lw

set_option Elab.async false
set_option linter.all false
set_option maxRecDepth 100000
set_option maxHeartbeats 4000000
namespace Ln
open PySem PySem.SeqAt
open AutoSeq1 (wpAny_loadPart')
open MeetsSeq MeetsSeq2 MeetsSeq3
/-! xs != ys for two lists whose items are equal one by one: False -/
section
variable {P : Program} {w : World} {u v : Addr} {xs ys : Array Value} {kx ky : Nat} {dx dy : Option Addr} {sx sy : Array (Option Value)}
abbrev lob (d : Option Addr) (zs : Array Value) (k : Nat) (sl : Array (Option Value)) : Obj := { cls := .type "list", dict := d, data := .seq zs k, slots := sl }
/-- both lists stand, and their items are equal -/
def Both (P : Program) (w : World) (A : Around) (s : Shared) (u v : Addr) (xs ys : Array Value) (ou ov : Obj) : Prop :=
  s.heap.get? u = some ou ∧ s.heap.get? v = some ov ∧ ∀ j (q1 : j < xs.size) (q2 : j < ys.size), EqIn P w A.in1 s xs[j] ys[j] true
theorem walk_same (eqs : xs.size = ys.size) : ∀ (m i : Nat), xs.size - i = m → MeetsIn P w (Builtin.«list.__eq__.loop» ⟨[.ref u, .ref v, rawInt i, rawInt 3], []⟩) (fun A R s => Both P w A s u v xs ys (lob dx xs kx sx) (lob dy ys ky sy) ∧ R (.ok (.ret (.bool false))) s)
  | 0, i, q => by
    rintro A R ⟨hp, gg, dr, tt, oo⟩ ⟨⟨gu, gv, items⟩, fin⟩
    wp_walk using wpAny_loadPart' gu, wpAny_loadPart' gv
    have n1 : xs[((i : Nat) : Int).toNat]? = none := by rw [Array.getElem?_eq_none_iff]; simp; omega
    have n2 : ys[((i : Nat) : Int).toNat]? = none := by rw [Array.getElem?_eq_none_iff]; simp; omega
    rw [n1, n2]
    wp_walk using wpAny_loadPart' gu, wpAny_loadPart' gv
    show R (.ok (.ret (.bool (xs.size != ys.size)))) _
    rw [eqs, bne_self_eq_false]
    exact fin
  | m + 1, i, q => by
    rintro A R ⟨hp, gg, dr, tt, oo⟩ ⟨⟨gu, gv, items⟩, fin⟩
    wp_walk using wpAny_loadPart' gu, wpAny_loadPart' gv
    have lx : i < xs.size := by omega
    have ly : i < ys.size := by omega
    have n1 : xs[((i : Nat) : Int).toNat]? = some xs[i] := by rw [Int.toNat_natCast]; exact Array.getElem?_eq_getElem lx
    have n2 : ys[((i : Nat) : Int).toNat]? = some ys[i] := by rw [Int.toNat_natCast]; exact Array.getElem?_eq_getElem ly
    have up : ((i : Int) + 1) = ((i + 1 : Nat) : Int) := (Int.natCast_succ i).symm
    rw [n1, n2]
    refine wpAny_bind (items i lx ly _ _ ?_)
    wp_walk
    rw [up]
    refine ⟨plainId_quiet plain_eq_loop _, codeAny_builtin entry_eq_loop ?_⟩
    rw [Around.under_plainId plain_eq_loop _]
    exact walk_same eqs m (i + 1) (by omega) A R _ ⟨⟨gu, gv, items⟩, fin⟩
theorem list_same (eqs : xs.size = ys.size) : MeetsIn P w (Builtin.«list.__ne__» ⟨[.ref u, .ref v], []⟩) (fun A R s => Both P w A s u v xs ys (lob dx xs kx sx) (lob dy ys ky sy) ∧ R (.ok (.ret (.bool false))) s) := by
  rintro A R ⟨hp, gg, dr, tt, oo⟩ ⟨⟨gu, gv, items⟩, fin⟩
  have f3 := AutoSeq1.sub_list_list
  have nb : ¬ (xs.size != ys.size) = true := by rw [eqs, bne_self_eq_false]; exact Bool.false_ne_true
  wp_walk using wpAny_loadPart' gu, wpAny_loadPart' gv
  refine ⟨plainId_quiet plain_eq_loop _, codeAny_builtin entry_eq_loop ?_⟩
  rw [Around.under_plainId plain_eq_loop _]
  exact walk_same eqs _ 0 rfl A R _ ⟨⟨gu, gv, items⟩, fin⟩
end
section
variable {P : Program} {w : World} {A : Around} {E : Value → Shared → Prop} {s : Shared}
theorem ne_same {n : Nat} {u v : Addr} {xs ys : Array Value} {Q : Value → Shared → Prop} (hu : s.heap.IsList u xs) (hv : s.heap.IsList v ys) (eqs : xs.size = ys.size)
    (t : ∀ j (q1 : j < xs.size) (q2 : j < ys.size), PySem.W.EqTree P w s n xs[j] ys[j] true) (room : A.units + (n + 1) < cLine) (fin : Q (.bool false) s) : wpAny (model P w) A (compareOp .NotEq (.ref u) (.ref v)) Q E s := by
  obtain ⟨⟨c1, d1, a1, s1⟩, o1, k1, m1, e1⟩ := id hu
  obtain ⟨⟨c2, d2, a2, s2⟩, o2, k2, m2, e2⟩ := id hv
  simp only at k1 e1 k2 e2
  subst k1 e1 k2 e2
  refine wpAny_richCompare_same_room (T := "list") (op := .NotEq) ⟨_, o1, rfl⟩ ⟨_, o2, rfl⟩ F.slot_list_ne (call_meetsIn F.slot_list_ne ⟨_, o1, rfl⟩ F.entry_list_ne (F.args_list_ne_2 _ _) (list_same (kx := m1) (ky := m2) (dx := d1) (dy := d2) (sx := s1) (sy := s2) eqs) ?_) (by omega)
  exact ⟨⟨o1, o2, fun j q1 q2 => (t j q1 q2).at A.in1 (by show A.units + 1 + _ < cLine; omega)⟩, (show Value.bool false ≠ Value.notImplemented ∧ Q (.bool false) s from ⟨(fun z => nomatch z), fin⟩)⟩
end
end Ln
namespace Lw
open PySem PySem.Spec PyProof.Rows L2
/-! lists of None and of (row, True) -/
def RowS2 (H : Hp) (r q : V) : Prop := (r = .non ∧ q = .non) ∨ ∃ (d e : Addr) (ks ls : List (Key × V)), r = .ref d ∧ q = .ref e ∧ H d = some (.dK ks) ∧ H e = some (.dK ls) ∧ RowOk ks ∧ RowOk ls ∧ sameK ks ls = true
def ToldS (H : Hp) (x y : V) : Prop := (x = .non ∧ y = .non) ∨ ∃ (a b : Addr) (r q : V), x = .ref a ∧ y = .ref b ∧ H a = some (.tup [r, .bl true]) ∧ H b = some (.tup [q, .bl true]) ∧ RowS2 H r q
theorem vals_two {x y : V} {us : List Value} (r : Vals [x, y] us) : ∃ u1 u2, us = [u1, u2] ∧ RelV x u1 ∧ RelV y u2 := by
  cases r with
  | cons r1 t => cases t with
    | cons r2 t => cases t with
      | nil => exact ⟨_, _, rfl, r1, r2⟩
section
variable {X : Cx} {pins : List (Addr × Obj)} {σ : L2.St} {H : Hp} {s : Shared}
theorem row_tree (I : Inv X pins σ H s) {r q : V} {u v : Value} (h : RowS2 H r q) (ru : RelV r u) (rv : RelV q v) : PySem.W.EqTree X.prog X.w s 2 u v true := by
  rcases h with ⟨rfl, rfl⟩ | ⟨d, e, ks, ls, rfl, rfl, ed, ee, k1, k2, sm⟩
  · cases (show u = Value.none from ru)
    cases (show v = Value.none from rv)
    exact .same
  · cases (show u = Value.ref d from ru)
    cases (show v = Value.ref e from rv)
    by_cases z : d = e
    · subst z
      exact .same
    · obtain ⟨_, ya, va, ra, da⟩ := (show ObjOk X.prog X.w H s.heap d (.dK ks) from I.hok d _ ed)
      obtain ⟨_, yb, vb, rb, db⟩ := (show ObjOk X.prog X.w H s.heap e (.dK ls) from I.hok e _ ee)
      rw [← sm, ← dict_all ra rb]
      exact .dicts (knd := mixKind X.prog X.w) (e := eK ks ls) z ya yb da db (dict_tree ra rb k1.nodup k1.2.1 k2.2.1)
theorem told_tree (I : Inv X pins σ H s) {x y : V} {u v : Value} (h : ToldS H x y) (ru : RelV x u) (rv : RelV y v) : PySem.W.EqTree X.prog X.w s 3 u v true := by
  rcases h with ⟨rfl, rfl⟩ | ⟨a, b, r, q, rfl, rfl, ea, eb, hr⟩
  · cases (show u = Value.none from ru)
    cases (show v = Value.none from rv)
    exact .same
  · cases (show u = Value.ref a from ru)
    cases (show v = Value.ref b from rv)
    by_cases z : a = b
    · subst z
      exact .same
    · obtain ⟨its, w1, t1, _⟩ := I.tuple (SqT.of (K := X.K) ea)
      obtain ⟨jts, w2, t2, _⟩ := I.tuple (SqT.of (K := X.K) eb)
      obtain ⟨u1, u2, rfl, p1, p2⟩ := vals_two w1
      obtain ⟨v1, v2, rfl, q1, q2⟩ := vals_two w2
      cases (show u2 = Value.bool true from p2)
      cases (show v2 = Value.bool true from q2)
      have tr := row_tree I hr p1 q1
      have key : ∀ (j : Nat) (h1 : j < [u1, Value.bool true].toArray.size) (h2 : j < [v1, Value.bool true].toArray.size), PySem.W.EqTree X.prog X.w s 2 [u1, Value.bool true].toArray[j] [v1, Value.bool true].toArray[j] ((fun _ => true) j) := fun j h1 h2 => by
        have hj : j < 2 := h1
        rcases (by omega : j = 0 ∨ j = 1) with rfl | rfl
        · exact tr
        · exact .same
      have e3 : ((List.range (min [u1, Value.bool true].toArray.size [v1, Value.bool true].toArray.size)).all (fun _ => true) && [u1, Value.bool true].toArray.size == [v1, Value.bool true].toArray.size) = true := by
        show ((List.range 2).all (fun _ => true) && (2 == 2)) = true
        rfl
      rw [← e3]
      exact .tuples z t1 t2 key
def rNeTold : R2 := fun x y H Q => ∃ (a b : Addr) (xs ys : List V), x = .ref a ∧ y = .ref b ∧ H a = some (.lst xs) ∧ H b = some (.lst ys) ∧ Paired (ToldS H) xs ys ∧ Q (.bl false) H
theorem told_items {H : Hp} : ∀ {xs ys : List V} {us vs : List Value}, Paired (ToldS H) xs ys → Vals xs us → Vals ys vs → us.length = vs.length ∧ ∀ (j : Nat) (u v : Value), us[j]? = some u → vs[j]? = some v → ∃ x y, ToldS H x y ∧ RelV x u ∧ RelV y v
  | _, _, _, _, .nil, .nil, .nil => ⟨rfl, fun j u v h => by cases h⟩
  | _, _, _, _, .cons h r, .cons a as, .cons b bs => by
    obtain ⟨e1, e2⟩ := told_items r as bs
    refine ⟨by rw [List.length_cons, List.length_cons, e1], fun j u v hu hv => ?_⟩
    cases j with
    | zero =>
      cases hu
      cases hv
      exact ⟨_, _, h, a, b⟩
    | succ j => exact e2 j u v hu hv
theorem op_neTold (hu : X.A.units + 64 < cLine) : OpR X (compareOp .NotEq) rNeTold := by
  intro pins s σ H x y v u Q I rx ry h
  obtain ⟨a, b, xs, ys, rfl, rfl, ea, eb, hp, q⟩ := h
  cases (show v = Value.ref a from rx)
  cases (show u = Value.ref b from ry)
  obtain ⟨us, w1, p1, _⟩ := I.list (SqL.of (K := X.K) ea)
  obtain ⟨vs, w2, p2, _⟩ := I.list (SqL.of (K := X.K) eb)
  obtain ⟨e1, e2⟩ := told_items hp w1 w2
  refine Ln.ne_same (n := 3) p1.isList p2.isList (by rw [List.size_toArray, List.size_toArray]; exact e1) (fun j q1 q2 => ?_) (by omega) ⟨.bl false, H, I, rfl, q⟩
  obtain ⟨x, y, ht, rx, ry⟩ := e2 j us.toArray[j] vs.toArray[j] (by rw [← List.getElem?_toArray, Array.getElem?_eq_getElem q1]) (by rw [← List.getElem?_toArray, Array.getElem?_eq_getElem q2])
  exact told_tree I ht rx ry
end
end Lw

set_option Elab.async false
set_option linter.all false
set_option maxRecDepth 100000
set_option maxHeartbeats 40000000
namespace Lw
open PySem PySem.Spec PyProof.Rows L2
abbrev sRows43 : Stmt := top 42
section
variable {P : Program} {w : World} {K : PySem.W.Frag} {mg : Str → Option Value} {base : Heap}
theorem sq_asg2 {te : TE} {u : TS} {D : Ends} {σ : L2.St} {H : Hp} {i j : Nat} {K : PySem.W.Frag} (P : V → V → Hp → Prop) (h : ∀ Q : VK, (∀ t x y H', H' t = some (.tup [x, y]) → P x y H' → Q (.ref t) H') → te σ H Q)
    (k : ∀ x y H', P x y H' → u D ((σ.set i (some x)).set j (some y)) H') : tSeq (tAsg te (gTup K 2 (gCons (gName i) (gCons (gName j) gNil)))) u D σ H :=
  h _ fun t x y H' ht p => ⟨t, _, rfl, SqT.of ht, rfl, x, _, rfl, y, _, rfl, rfl, k x y H' p⟩
/-! _law_rows -/
def spIterZ (CY : Addr) (n : Nat) : Sp := fun vs H Q _ => ∃ (p dx l : Addr) (fs : List (Str × V)) (zs : List V), vs = [.ref p] ∧ H p = some (.ins CY dx fs) ∧ fs.lookup ("_keys" : Str) = some (.ref l) ∧ H l = some (.lst zs) ∧ ∀ it, H it = none → n ≤ it → Q (.ref it) (upd H it (ItO l it 0))
theorem ok_iterZ {CY f : Addr} {fd : FuncData} (F : MethD K "__iter__" "Copy.__iter__" sIterC f fd) (T : TxtY K CY) (hI : mg "iter" = none) : Po.FnZ P w K mg base CX0 1 f fd ["self"] (spIterZ CY) := by
  refine Po.okZ F scIterC (fun n vs H Q E h => ?_) (fun cdv A outer s H vs Q E hr h => ?_)
  · obtain ⟨p, dx, l, fs, zs, rfl, _⟩ := h
    rfl
  · obtain ⟨p, dx, l, fs, zs, rfl, hp, hlk, hl, k⟩ := h
    refine ⟨_, PSs.nox (pss_one (ps_ret (pe_callB ItX.call_iterN (by rfl) hI (by decide +kernel) (pa_cons (pe_fld (pv 0) (by rfl)) pa_nil)))), ?_⟩
    exact ⟨_, rfl, p, CY, dx, fs, .ref l, rfl, hp, T.cl, T.n4, hlk, l, zs, rfl, SqL.of hl, k⟩
def OthOk (ks : List Int) (key : Int) (st : Int → Option (List V × List Int)) : Prop := ks.Pairwise (· ≤ ·) ∧ ks.Nodup ∧ ∀ k, k ∈ ks ↔ k ≠ key ∧ (st k).isSome = true
def spRows43 (CY CH : Addr) : Sp := fun vs H Q _ => ∃ (p d h : Addr) (b : Hab) (cols : List Str) (n : Nat) (st : Int → Option (List V × List Int)) (key : Int), vs = [.ref p, .int key] ∧ CopyOk CY CH H p d h b cols n st ∧ n ≤ 1000 ∧ (∀ row fs, st key = some (row, fs) → row.length = cols.length) ∧
  ∀ t x u l ks G, Same H G → G t = some (.tup [x, .ref u, .ref l]) → RowK G x cols (st key) → G u = some (.tup ((holdD (st key)).map V.int)) → G l = some (.lst (ks.map V.int)) → OthOk ks key st → Q (.ref t) G
abbrev nRows43 : List Str := ["copy", "key", "row", "held", "one"]
theorem scRows43 : FnScope nRows43 ["copy", "key"] (defScope sRows43) := ⟨rfl, rfl, rfl, by decide +kernel, rfl, by decide +kernel, by decide +kernel⟩
theorem ok_rows43 {CY CH f fi : Addr} {fd fdI : FuncData} (F : FnP K "_law_rows" sRows43 f fd) (W : Po.OwnI K CY fi) (FI : Po.FnZ P w K mg base CX0 1 fi fdI ["self"] (spIterZ CY)) (bI : Binds K fdI ["self"] []) (cP : Cal P w K mg base CX0 "_law_place" 4 ["copy", "key"] (spPlace CY CH)) : FnOk P w K mg base CX0 5 f fd ["copy", "key"] (spRows43 CY CH) := by
  refine F.ok scRows43 (fun vs H Q E h => ?_) (fun cdv A outer s0 H vs Q E hr h => ?_)
  · obtain ⟨p, d, h, b, cols, n, st, key, rfl, _⟩ := h
    rfl
  · obtain ⟨p, d, h, b, cols, n, st, key, rfl, co, hn, hl, k⟩ := h
    have nd := scRows43.nd
    have h1 : Room 1 _ := hr.mono (by decide)
    refine ⟨_, PSs.nox (pss_cons (ps_asg (pe_cal cP hr (pa_cons (pv 0) (pa_cons (pv 1) pa_nil))) (pg_tup (by rfl) (pgs_cons (pg_name (i := 2) nd rfl (Or.inl rfl)) (pgs_cons (pg_name (i := 3) nd rfl (Or.inl rfl)) pgs_nil))))
      (pss_one (ps_ret (pe_tup (pa_cons (pv 2) (pa_cons (pv 3) (pa_cons (pe_lc (own := [("one", 4)]) (g := (gName 4)) rfl nd (Po.pi_own W FI bI h1 (pv 0)) (blkOk_by (N := nRows43) (sc := defScope sRows43) (by decide +kernel)) (fun _ _ _ _ _ => pg_name (i := 4) nd rfl (Or.inl rfl)) (fun _ _ _ _ _ => pts_one (pt_cmpR op_ne (pv 4) (pv 1) (nomark _))) (fun _ _ _ _ _ => pv 4)) pa_nil))))))), ?_⟩
    obtain ⟨dx, t0, l0, mks, ks, g1, g2, g3, g4, l1, l2, mp, ko⟩ := id co.at_
    refine sq_asg2 (fun x z G => ∃ u, z = .ref u ∧ Same H G ∧ RowK G x cols (st key) ∧ G u = some (.tup ((holdD (st key)).map V.int))) (fun Q q => ⟨_, rfl, _, rfl, p, d, h, b, cols, n, st, key, rfl, co, hl, fun t x u G s ht hx hu => q t _ _ _ ht ⟨u, rfl, s, hx, hu⟩⟩) ?_
    rintro x _ G ⟨u, rfl, s, hx, hu⟩
    refine ⟨_, rfl, _, rfl, ?_⟩
    refine ⟨_, rfl, p, dx, _, l0, _, rfl, s _ _ g1, s _ _ g4, fun n => ⟨p, dx, l0, _, _, rfl, s _ _ g1, rfl, s _ _ g4, fun it nit sz => ⟨it, rfl, nit, sz, rfl⟩⟩, fun D nD => ?_⟩
    refine lc_list (xs := ks.map V.int) (fun i G2 => Same G G2 ∧ G2 D = some (.lst ((leftOf key (ks.take i)).map V.int))) ⟨Lw.Same.new (Same.refl G) nD, upd_same⟩ (fun i G2 _ h => SqL.of (h.1 _ _ (s _ _ g4))) ?_ ?_
    · rintro i y G2 q1 ⟨s2, gD⟩
      have hi := (List.getElem?_eq_some_iff.mp q1).1
      rw [List.length_map] at hi
      rw [List.getElem?_map] at q1
      obtain ⟨o, ho, rfl⟩ := Option.map_eq_some_iff.mp q1
      have et : leftOf key (ks.take (i + 1)) = leftOf key (ks.take i) ++ leftOf key [o] := by
        unfold leftOf
        rw [take_one ho, List.filter_append]
      refine ⟨rfl, _, rfl, _, rfl, rfl, _, rfl, ?_⟩
      by_cases e : o = key
      · refine itFb (by rw [decide_eq_true (by rw [e])]; rfl) ⟨s2, ?_⟩
        rw [et, gD]
        subst e
        simp [leftOf]
      · refine itTb (by rw [decide_eq_false fun z => e (V.int.inj z)]; rfl) ⟨_, rfl, _, gD, ?_, same_at nD s2, ?_⟩
        · rw [List.length_map]
          have := List.length_filter_le (fun j => decide (j ≠ key)) (ks.take i)
          have h9 : sizeLine = 16777216 := by decide
          have lt : (ks.take i).length ≤ i := by rw [List.length_take]; exact Nat.min_le_left _ _
          have le : (leftOf key (ks.take i)).length ≤ (ks.take i).length := List.length_filter_le _ _
          omega
        · rw [upd_same, et, List.map_append]
          simp [leftOf, e]
    · rintro G2 ⟨s2, gD⟩
      rw [List.length_map, List.take_length] at gD
      refine ⟨(by show 3 ≤ sizeLine; decide), fun t nt => ?_⟩
      have st3 := Lw.Same.new (o := .tup [x, .ref u, .ref D]) (Same.refl G2) nt
      have sA := s2.trans st3
      refine k t x u D (leftOf key ks) _ (s.trans sA) upd_same ?_ (sA _ _ hu) (st3 _ _ gD) ⟨ko.1.filter _, ko.2.1.filter _, fun j => ?_⟩
      · rcases hx with hx | ⟨e, row, fs, e1, e2, e3⟩
        · exact .inl hx
        · exact .inr ⟨e, row, fs, e1, e2, sA _ _ e3⟩
      · unfold leftOf
        have e : (!decide (j = key)) = true ↔ j ≠ key := by simp
        rw [List.mem_filter, ko.2.2 j, e]
        exact ⟨fun h => ⟨h.2, h.1⟩, fun h => ⟨h.2, h.1⟩⟩
end
end Lw

set_option Elab.async false
set_option linter.all false
set_option maxRecDepth 100000
set_option maxHeartbeats 40000000
namespace Lw
open PySem PySem.Spec PyProof.Rows L2
section
variable {P : Program} {w : World} {K : PySem.W.Frag} {mg : Str → Option Value} {base : Heap}
theorem rowOk43 {cols : List Str} {row : List V} (n : cols.Nodup) (h : row.length = cols.length) (l : cols.length ≤ 60) (hw : ∀ z ∈ cols, IsWord z) (hv : ∀ v ∈ row, IntN v) : RowOk (cellsK cols row) := by
  rw [cells_zip n h]
  refine ⟨⟨cols, zip_keys h, n, hw⟩, fun q hq => hv _ (List.of_mem_zip hq).2, ?_⟩
  rw [List.length_zip, List.length_map]
  omega
theorem vals_ne (h : Str) : valsOf h ≠ [] ∧ (valsOf h).length ≤ 4 := by
  unfold valsOf
  split
  · exact ⟨by simp, by decide⟩
  · split
    · exact ⟨by simp, by decide⟩
    · split
      · exact ⟨by simp, by decide⟩
      · exact ⟨by simp, by decide⟩
theorem four_habs {kvs : List (Str × Str)} (h : kvs.map (·.1) = habNames) : ∃ a b c d : Str, kvs = [(("present" : Str), a), (("lacking" : Str), b), (("gone" : Str), c), (("shared" : Str), d)] := by
  match kvs, h with
  | [(k1, a), (k2, b), (k3, c), (k4, d)], h =>
    have h : [k1, k2, k3, k4] = habNames := h
    cases h
    exact ⟨a, b, c, d, rfl⟩
/-! one key's way through a plan -/
theorem pr_mapR {α β γ : Type} {R : α → γ → Prop} {S : α → β → Prop} {f : β → γ} (k : ∀ a b, S a b → R a (f b)) : ∀ {as : List α} {bs : List β}, Paired S as bs → Paired R as (bs.map f)
  | _, _, .nil => .nil
  | _, _, .cons h r => .cons (k _ _ h) (pr_mapR k r)
abbrev StF : Type := Int → Option (List V × List Int)
def StepR (b : Hab) (cols : List Str) (z : Str) (kvs : List (Key × V)) (f : Int) (o o' : Option (List V × List Int)) : Prop := (wayOf b o.isSome z = "stop" ∧ o' = o) ∨ (wayOf b o.isSome z ≠ "stop" ∧ AppR (wayOf b o.isSome z) cols kvs f o o')
theorem StepR.one {b : Hab} {cols : List Str} {z : Str} {kvs : List (Key × V)} {f : Int} {o o1 o2 : Option (List V × List Int)} (h1 : StepR b cols z kvs f o o1) (h2 : StepR b cols z kvs f o o2) : o1 = o2 := by
  rcases h1 with ⟨a, e⟩ | ⟨a, h1⟩
  · rcases h2 with ⟨_, e2⟩ | ⟨n, _⟩
    · rw [e, e2]
    · exact absurd a n
  · rcases h2 with ⟨y, _⟩ | ⟨_, h2⟩
    · exact absurd y a
    · exact appR_one h1 h2
structure PlanS where
  t : Addr
  c : Addr
  z : Str
  key : Int
  f : Int
  kvs : List (Key × V)
structure PlanOk (N G : Hp) (cols : List Str) (keys feeds : List Int) (e : PlanS) : Prop where
  new : N e.c = none
  at_ : G e.t = some (.tup [.str e.z, .int e.key, .ref e.c, .int e.f])
  ce : G e.c = some (.dK e.kvs)
  row : RowOk e.kvs
  sub : ∀ k ∈ e.kvs.map (·.1), ∃ y ∈ cols, k = Sum.inr y
  deed : e.z ∈ deeds
  tk : e.z = "take" → e.kvs = []
  key : e.key ∈ keys
  feed : e.f ∈ feeds
theorem PlanOk.same {N H G : Hp} {cols : List Str} {keys feeds : List Int} {e : PlanS} (s : Same H G) (h : PlanOk N H cols keys feeds e) : PlanOk N G cols keys feeds e := ⟨h.new, s _ _ h.at_, s _ _ h.ce, h.row, h.sub, h.deed, h.tk, h.key, h.feed⟩
theorem plans_of {N G : Hp} {cols : List Str} {keys feeds : List Int} : ∀ es : List V, (∀ e ∈ es, PlanE N G cols keys feeds e) → ∃ pl : List PlanS, es = pl.map (fun e => V.ref e.t) ∧ ∀ e ∈ pl, PlanOk N G cols keys feeds e
  | [], _ => ⟨[], rfl, fun _ h => (List.not_mem_nil h).elim⟩
  | x :: r, h => by
    obtain ⟨pl, e1, e2⟩ := plans_of r fun e he => h e (List.mem_cons_of_mem _ he)
    obtain ⟨t, c, z, key, f, kvs, ex, h0, h1, h2, h3, h4, h5, h6, h7, h8⟩ := h x List.mem_cons_self
    refine ⟨⟨t, c, z, key, f, kvs⟩ :: pl, by rw [ex, e1]; rfl, fun e he => ?_⟩
    rcases List.mem_cons.mp he with rfl | he
    · exact ⟨h0, h1, h2, h3, h4, h5, h6, h7, h8⟩
    · exact e2 e he
def Trace (b : Hab) (cols : List Str) (pl : List PlanS) (S : Nat → StF) (i : Nat) : Prop := S 0 = (fun _ => none) ∧ ∀ j e, j < i → pl[j]? = some e → ∃ o', StepR b cols e.z e.kvs e.f (S j e.key) o' ∧ S (j + 1) = setSt (S j) e.key o'
def ext (S : Nat → StF) (i : Nat) (st : StF) : Nat → StF := fun j => if j ≤ i then S j else st
theorem ext_le {S : Nat → StF} {i j : Nat} {st : StF} (h : j ≤ i) : ext S i st j = S j := if_pos h
theorem ext_gt {S : Nat → StF} {i : Nat} {st : StF} : ext S i st (i + 1) = st := if_neg (by omega)
theorem Trace.step {b : Hab} {cols : List Str} {pl : List PlanS} {S : Nat → StF} {i : Nat} {e : PlanS} {o' : Option (List V × List Int)} (h : Trace b cols pl S i) (he : pl[i]? = some e) (hs : StepR b cols e.z e.kvs e.f (S i e.key) o') : Trace b cols pl (ext S i (setSt (S i) e.key o')) (i + 1) := by
  refine ⟨by rw [ext_le (Nat.zero_le _)]; exact h.1, fun j e2 hj he2 => ?_⟩
  by_cases q : j = i
  · subst q
    rw [he] at he2
    cases he2
    rw [ext_le (Nat.le_refl _), ext_gt]
    exact ⟨o', hs, rfl⟩
  · have hl : j < i := by omega
    rw [ext_le (Nat.le_of_lt hl), ext_le hl]
    exact h.2 j e2 hl he2
/-- what a trial tells of a refusal -/
def TlE (G : Hp) (dd : Addr) (b : Hab) (cols : List Str) (z : Str) (o : Option (List V × List Int)) (v : V) : Prop := (wayOf b o.isSome z ≠ "stop" ∧ v = .non) ∨ (wayOf b o.isSome z = "stop" ∧ ∃ (t : Addr) (r : V), v = .ref t ∧ G t = some (.tup [r, .bl true]) ∧ RowE G r (toldO cols o) ∧ ∀ e, r = .ref e → e ≠ dd)
section
variable {H G : Hp} {dd : Addr} {b : Hab} {cols : List Str} {z : Str} {o : Option (List V × List Int)} {v : V}
theorem TlE.same (s : Same H G) (h : TlE H dd b cols z o v) : TlE G dd b cols z o v := by
  rcases h with h | ⟨a, t, r, e1, e2, e3, e4⟩
  · exact .inl h
  · exact .inr ⟨a, t, r, e1, s _ _ e2, e3.same s, e4⟩
theorem TlE.keep2 {p : Addr} {C dx : Addr} {fs : List (Str × V)} {ks : List (Key × V)} (hp : H p = some (.ins C dx fs)) (hd : H dd = some (.dK ks)) (k : Keep2 p dd H G) (h : TlE H dd b cols z o v) : TlE G dd b cols z o v := by
  rcases h with h | ⟨a, t, r, e1, e2, e3, e4⟩
  · exact .inl h
  · refine .inr ⟨a, t, r, e1, k _ _ (fun z => by subst z; rw [hp] at e2; cases e2) (fun z => by subst z; rw [hd] at e2; cases e2) e2, ?_, e4⟩
    rcases e3 with e3 | ⟨e, kvs, q1, q2, q3⟩
    · exact .inl e3
    · exact .inr ⟨e, kvs, q1, q2, k _ _ (fun z => by subst z; rw [hp] at q3; cases q3) (e4 e q2) q3⟩
theorem TlE.keepR {l : Addr} {xs : List V} (hl : H l = some (.lst xs)) (k : Keep l H G) (h : TlE H dd b cols z o v) : TlE G dd b cols z o v := by
  have kk : ∀ {a : Addr} {u : HO}, H a = some u → (∀ ys, u ≠ .lst ys) → G a = some u := fun {a u} e n => k a u (fun z => by subst z; rw [hl] at e; exact n _ (Option.some.inj e).symm) e
  rcases h with h | ⟨a, t, r, e1, e2, e3, e4⟩
  · exact .inl h
  · refine .inr ⟨a, t, r, e1, kk e2 (fun _ e => by cases e), ?_, e4⟩
    rcases e3 with e3 | ⟨e, kvs, q1, q2, q3⟩
    · exact .inl e3
    · exact .inr ⟨e, kvs, q1, q2, kk q3 (fun _ e => by cases e)⟩
theorem TlE.new {d2 : Addr} (n : H d2 = none) (h : TlE H dd b cols z o v) : TlE H d2 b cols z o v := by
  rcases h with h | ⟨a, t, r, e1, e2, e3, e4⟩
  · exact .inl h
  · refine .inr ⟨a, t, r, e1, e2, e3, fun e he q => ?_⟩
    rcases e3 with ⟨_, e3⟩ | ⟨e5, kvs, q1, q2, q3⟩
    · rw [e3] at he
      cases he
    · rw [q2] at he
      cases he
      rw [q, n] at q3
      cases q3
theorem TlE.pair {d2 : Addr} {v2 : V} (n : cols.Nodup) (l : cols.length ≤ 60) (hw : ∀ z ∈ cols, IsWord z) (g : GoodO cols o) (h : TlE G dd b cols z o v) (h2 : TlE G d2 b cols z o v2) : ToldS G v v2 := by
  rcases h with ⟨a, e⟩ | ⟨a, t, r, e1, e2, e3, _⟩
  · rcases h2 with ⟨_, e'⟩ | ⟨a', _⟩
    · exact .inl ⟨e, e'⟩
    · exact absurd a' a
  · rcases h2 with ⟨a', _⟩ | ⟨_, t', r', f1, f2, f3, _⟩
    · exact absurd a a'
    · refine .inr ⟨t, t', r, r', e1, f1, e2, f2, ?_⟩
      rcases e3 with ⟨eo, er⟩ | ⟨d, kvs, q1, q2, q3⟩
      · rcases f3 with ⟨_, fr⟩ | ⟨_, _, p1, _⟩
        · exact .inl ⟨er, fr⟩
        · rw [eo] at p1
          cases p1
      · rcases f3 with ⟨fo, _⟩ | ⟨d', kvs', p1, p2, p3⟩
        · rw [fo] at q1
          cases q1
        · rw [q1] at p1
          cases p1
          cases o with
          | none => cases q1
          | some w =>
            obtain ⟨row, fs⟩ := w
            cases q1
            obtain ⟨g1, _, _, _, g5⟩ := g row fs rfl
            have rk : RowOk (cellsK cols row) := rowOk43 n g1 l hw g5
            exact .inr ⟨d, d', _, _, q2, p2, q3, p3, rk, rk, sameK_refl rk⟩
end
/-- what was refused at one key -/
def sel (pl : List PlanS) (rs : List V) (k : Int) (j : Nat) : List V := (((pl.zip rs).take j).filter fun p => decide (p.1.key = k)).map (·.2)
theorem sel_zero {pl : List PlanS} {rs : List V} {k : Int} : sel pl rs k 0 = [] := rfl
theorem sel_succ {pl : List PlanS} {rs : List V} {k : Int} {j : Nat} {e : PlanS} {v : V} (he : pl[j]? = some e) (hv : rs[j]? = some v) : sel pl rs k (j + 1) = sel pl rs k j ++ (if e.key = k then [v] else []) := by
  have hz : (pl.zip rs)[j]? = some (e, v) := by
    have h1 := (List.getElem?_eq_some_iff.mp he)
    have h2 := (List.getElem?_eq_some_iff.mp hv)
    obtain ⟨a1, a2⟩ := h1
    obtain ⟨b1, b2⟩ := h2
    rw [List.getElem?_eq_getElem (by rw [List.length_zip]; omega), List.getElem_zip, a2, b2]
  unfold sel
  rw [take_one hz, List.filter_append, List.map_append]
  by_cases q : e.key = k
  · rw [if_pos q]
    simp [q]
  · rw [if_neg q]
    simp [q]
theorem setSt_setSt {st : StF} {k : Int} {o o' : Option (List V × List Int)} : setSt (setSt st k o) k o' = setSt st k o' := by
  funext j
  unfold setSt
  by_cases e : j = k
  · rw [if_pos e, if_pos e]
  · rw [if_neg e, if_neg e, if_neg e]
theorem setSt_at {st : StF} {k : Int} {o : Option (List V × List Int)} : setSt st k o k = o := if_pos rfl
theorem setSt_none {k : Int} : setSt (fun _ => none) k none = fun _ => none := by
  funext j
  unfold setSt
  split <;> rfl
/-- the dict of what is told is no copy's own -/
theorem rowE_ne {CY CH : Addr} {H G : Hp} {p d h : Addr} {b : Hab} {cols : List Str} {n : Nat} {st : StF} {key : Int} {r : V} (c : CopyOk CY CH H p d h b cols n st) (s : Same H G) (hr : RowE G r (toldO cols (st key))) (hl : ∀ row fs, st key = some (row, fs) → row.length = cols.length) (nc : cols.Nodup) : ∀ e, r = .ref e → e ≠ d := fun e he q => by
  obtain ⟨dx, t, l, mks, ks, _, _, h3, _, _, _, m, _⟩ := c.at_
  rcases hr with ⟨_, er⟩ | ⟨e', kvs, q1, q2, q3⟩
  · rw [er] at he
    cases he
  · rw [q2] at he
    cases he
    rw [q, s _ _ h3] at q3
    cases q3
    cases hs : st key with
    | none =>
      rw [hs] at q1
      cases q1
    | some w =>
      obtain ⟨row, fs⟩ := w
      rw [hs] at q1
      have q1 : cellsK cols row = mks := Option.some.inj q1
      have hv := m.val key
      rw [hs] at hv
      have hk : (Sum.inl key : Key) ∈ mks.map (·.1) := by
        have hv : (valV mks (Sum.inl key)).isSome = true := hv
        rw [← valV_any] at hv
        obtain ⟨y, y1, y2⟩ := List.any_eq_true.mp hv
        exact List.mem_map.mpr ⟨y, y1, of_decide_eq_true y2⟩
      rw [← q1, cells_zip nc (hl row fs hs), zip_keys (hl row fs hs)] at hk
      obtain ⟨y, _, y2⟩ := List.mem_map.mp hk
      cases y2
theorem KeysOf.back43 {G G' : Hp} {p D : Addr} (k : KeysOf G' p D) (e : G' p = G p) : KeysOf G p D := by
  obtain ⟨C, dx, fs, h, l⟩ := k
  exact ⟨C, dx, fs, by rw [← e]; exact h, l⟩
theorem sq_asg3 {te : TE} {u : TS} {D : Ends} {σ : L2.St} {H : Hp} {i j l : Nat} {K : PySem.W.Frag} (P : V → V → V → Hp → Prop) (h : ∀ Q : VK, (∀ t x y z H', H' t = some (.tup [x, y, z]) → P x y z H' → Q (.ref t) H') → te σ H Q)
    (k : ∀ x y z H', P x y z H' → u D (((σ.set i (some x)).set j (some y)).set l (some z)) H') : tSeq (tAsg te (gTup K 3 (gCons (gName i) (gCons (gName j) (gCons (gName l) gNil))))) u D σ H :=
  h _ fun t x y z H' ht p => ⟨t, _, rfl, SqT.of ht, rfl, x, _, rfl, y, _, rfl, z, _, rfl, rfl, k x y z H' p⟩
/-- two tellings of one trial -/
def MineR (G : Hp) (d : Addr) (b : Hab) (ws : List Str) (v w : V) : Prop := ∃ (z : Str) (o : Option (List V × List Int)), GoodO ws o ∧ TlE G d b ws z o v ∧ TlE G d b ws z o w
theorem rowK_eq {G : Hp} {x y : V} {ws : List Str} {o : Option (List V × List Int)} (n : ws.Nodup) (l : ws.length ≤ 60) (hw : ∀ z ∈ ws, IsWord z) (g : GoodO ws o) (h : RowK G x ws o) (h2 : RowK G y ws o) : (x = .non ∧ y = .non) ∨ ∃ d1 d2 kvs1 kvs2, x = .ref d1 ∧ y = .ref d2 ∧ G d1 = some (.dK kvs1) ∧ G d2 = some (.dK kvs2) ∧ RowEq kvs1 kvs2 := by
  rcases h with ⟨e, ex⟩ | ⟨d, row, fs, e, ex, hd⟩
  · rcases h2 with ⟨_, ey⟩ | ⟨_, _, _, e2, _⟩
    · exact .inl ⟨ex, ey⟩
    · rw [e] at e2
      cases e2
  · rcases h2 with ⟨e2, _⟩ | ⟨d', row', fs', e2, ey, hd'⟩
    · rw [e] at e2
      cases e2
    · rw [e] at e2
      cases e2
      obtain ⟨g1, _, _, _, g5⟩ := g row fs e
      exact .inr ⟨d, d', _, _, ex, ey, hd, hd', RowEq.refl (rowOk43 n g1 l hw g5)⟩
theorem RowK.same43 {H G : Hp} {x : V} {cols : List Str} {o : Option (List V × List Int)} (s : Same H G) (h : RowK H x cols o) : RowK G x cols o := by
  rcases h with h | ⟨d, row, fs, e1, e2, e3⟩
  · exact .inl h
  · exact .inr ⟨d, row, fs, e1, e2, s _ _ e3⟩
end
end Lw

set_option Elab.async false
set_option linter.all false
set_option maxRecDepth 100000
set_option maxHeartbeats 40000000
namespace Lw
open PySem PySem.Spec PyProof.Rows L2
abbrev sLaw : Stmt := top 43
section
variable {P : Program} {w : World} {K : PySem.W.Frag} {mg : Str → Option Value} {base : Heap}
/-! the law -/
theorem pass_no {X : Cx} : Passes (L2N.CX X.prog X.w) X (fun _ _ _ => False) := fun _ _ _ _ _ _ _ c => by
  obtain ⟨_, _, _, _, _, _, _, _, _, _, _, _, z⟩ := c
  exact z.elim
structure Cals (P : Program) (w : World) (K : PySem.W.Frag) (mg : Str → Option Value) (base : Heap) (CY CH CP CC CT CR : Addr) : Prop where
  src : Cal P w K mg base CX0 "_law_source" 1 ["script", "at"] (spSource K)
  draw : Cal P w K mg base CX0 "_law_draw" 1 ["source", "many"] spDrawW
  pick : Cal P w K mg base CX0 "_law_pick" 2 ["source", "some"] (spOf K)
  words : Cal P w K mg base CX0 "_law_words" 3 ["source", "many", "taken"] (spWords K)
  num : Cal P w K mg base CX0 "_law_number" 2 ["source", "limit"] spNumL
  values : Cal P w K mg base CX0 "_law_values" 1 ["habit"] spValues
  names : Cal P w K mg base CX0 "_law_names_of_habits" 1 [] spNamesH
  made : Cal P w K mg base CX0 "_law_made" 3 ["given"] (spMade CH)
  plan : Cal P w K mg base CX0 "_law_plan" 4 ["script", "columns", "keys", "feeds", "most"] (spPlan K)
  msg : Cal P w K mg base CX0 "_law_message" 3 ["deed", "key", "cells"] (spMsg CP CC CT)
  tried : Cal P w K mg base CX0 "_law_tried" 7 ["copy", "message", "feed", "is_plain"] (spTried CY CH CP CC CT CR)
  rows : Cal P w K mg base CX0 "_law_rows" 5 ["copy", "key"] (spRows43 CY CH)
  isrow : Cal P w K mg base CX0 "_law_is_row" 2 ["told", "due"] spIsRow
  range : mg "range" = none
  dict : mg "dict" = none
  sorted : mg "sorted" = none
  len : mg "len" = none
  clY : Cls K CY
  gY : mg "Copy" = some (.ref CY)
  mY : ∃ f fd, Mk K CY f ∧ FnOk P w K mg base CX0 1 f fd ["self", "columns", "habits"] (spCopyI CY CH) ∧ Binds K fd ["self", "columns", "habits"] []
  con : ∃ g fd, Oc.InC K CY g ∧ FnOk P w K mg base CX0 1 g fd ["self", "x"] (spConC CY CH) ∧ Binds K fd ["self", "x"] []
  get : ∃ g fd, Gi.GetC K CY g ∧ FnOk P w K mg base CX0 2 g fd ["self", "at"] (spGetI CY CH) ∧ Binds K fd ["self", "at"] []
  hol : ∃ g fd, Meth K CY "holders" g ∧ FnOk P w K mg base CX0 1 g fd ["self", "key"] (spHolders CY CH) ∧ Binds K fd ["self", "key"] []
theorem Keep.same {q : Addr} {H G G' : Hp} (hq : H q = none) (s : Same H G) (k : Keep q G G') : Same H G' := fun b o e => k b o (ne_of_none e hq) (s b o e)
def spLaw (K : PySem.W.Frag) : Sp := fun vs H Q _ => ∃ (a : Addr) (ns : List Int), vs = [.ref a] ∧ SqL K H a (ns.map V.int) ∧ ns.length ≤ 63 ∧ ∀ H', Q (.bl true) H'
abbrev nLaw : List Str := ["script", "source", "columns", "habits", "low", "keys", "turn", "plan", "whole", "refused", "deed", "key", "cells", "feed", "told", "single", "mine", "other", "row", "held", "others", "habit", "k", "one"]
theorem scLaw : FnScope nLaw ["script"] (defScope sLaw) := ⟨rfl, rfl, rfl, by decide +kernel, rfl, by decide +kernel, by decide +kernel⟩
theorem ok_law {CY CH CP CC CT CR f : Addr} {fd : FuncData} (F : FnP K "law" sLaw f fd) (c : Cals P w K mg base CY CH CP CC CT CR) : FnOk P w K mg base CX0 8 f fd ["script"] (spLaw K) := by
  obtain ⟨fY, fdY, MY, FY, bY⟩ := c.mY
  obtain ⟨fNm, fdNm, gNm, kNm, FNm, bNm⟩ := c.names.ex
  obtain ⟨gC, fdC, WC, FC, bC⟩ := c.con
  obtain ⟨gG, fdG, WG, FG, bG⟩ := c.get
  obtain ⟨gH, fdH, WH, FH, bH⟩ := c.hol
  refine F.ok scLaw (fun vs H Q E h => ?_) (fun cdv A outer s0 H vs Q E hr h => ?_)
  · obtain ⟨a, ns, rfl, _⟩ := h
    rfl
  · obtain ⟨a, ns, rfl, hS, hlen, k⟩ := h
    have nd := scLaw.nd
    have h1 : Room 1 _ := hr.mono (by decide)
    have h2 : Room 2 _ := hr.mono (by decide)
    have h3 : Room 3 _ := hr.mono (by decide)
    have h4 : Room 4 _ := hr.mono (by decide)
    have h5 : Room 5 _ := hr.mono (by decide)
    have hu := hu_of hr
    have h9 : sizeLine = 16777216 := by decide
    refine ⟨_, PSs.nox (pss_cons (ps_set (i := 1) nd rfl (Or.inr rfl) (pe_cal c.src h1 (pa_cons (pv 0) (pa_cons pe_int pa_nil))))
      (pss_cons (ps_set (i := 2) nd rfl (Or.inl rfl) (pe_cal c.words h3 (pa_cons (pv 1) (pa_cons (pe_cal c.draw h1 (pa_cons (pv 1) (pa_cons pe_int pa_nil))) (pa_cons (pe_lst (pa_cons pe_str pa_nil)) pa_nil)))))
      (pss_cons (ps_set (i := 3) nd rfl (Or.inl rfl) (pe_callTy (call_dictP rfl) (by rfl) c.dict (by decide +kernel) (pa_cons (pe_lc (own := [("habit", 21)]) (g := (gName 21)) (tt := tYes) rfl nd (pi_list (pe_call0 FNm h1 rfl gNm kNm bNm .nil pass0)) (blkOk_by (N := nLaw) (sc := defScope sLaw) (by decide +kernel)) (fun _ _ _ _ _ => pg_name (i := 21) nd rfl (Or.inl rfl)) (fun _ _ _ _ _ => pts_nil) (fun _ _ _ _ _ => pe_tup (pa_cons (pv 21) (pa_cons (pe_cal c.pick h2 (pa_cons (pv 1) (pa_cons (pe_cal c.values h1 (pa_cons (pv 21) pa_nil)) pa_nil))) pa_nil)))) pa_nil)))
      (pss_cons (ps_par (i := 4) (j := 5) (by rfl) nd rfl rfl (by decide) rfl rfl (pa_cons (pe_cal c.num h2 (pa_cons (pv 1) (pa_cons (pe_op op_pow pe_int pe_int) pa_nil))) (pa_cons (pe_lst pa_nil) pa_nil)) (by rfl))
      (pss_cons (ps_for PassesOwn.never rfl (pi_range1 rfl c.range (pa_cons (pe_op op_add pe_int (pe_cal c.draw h1 (pa_cons (pv 1) (pa_cons pe_int pa_nil)))) pa_nil)) (pg_name (i := 6) nd rfl (Or.inl rfl)) (pss_one (ps_expr (pe_bm PySem.F.plainAttrs_list PySem.F.slot_list_append PySem.F.type_list_append mt_append (pv 5) (pa_cons (pe_ifExp (pt_cmpR op_eq (pe_cal c.draw h1 (pa_cons (pv 1) (pa_cons pe_int pa_nil))) pe_int (nomark _)) (pe_op op_add (pv 4) (pv 6)) (pe_op op_sub (pe_op op_sub (pv 4) pe_int) (pv 6))) pa_nil)))))
      (pss_cons (ps_set (i := 7) nd rfl (Or.inr rfl) (pe_cal c.plan h4 (pa_cons (pv 0) (pa_cons (pv 2) (pa_cons (pv 5) (pa_cons (pe_lst (pa_cons pe_int (pa_cons pe_int (pa_cons pe_int pa_nil)))) (pa_cons pe_int pa_nil)))))))
      (pss_cons (ps_asg (pe_tup (pa_cons (pe_make MY FY h2 (by rfl) c.gY bY .nil pass0 (pa_cons (pv 2) (pa_cons (pe_cal c.made h3 (pa_cons (pv 3) pa_nil)) pa_nil))) (pa_cons (pe_lst pa_nil) pa_nil))) (pg_tup (by rfl) (pgs_cons (pg_name (i := 8) nd rfl (Or.inr rfl)) (pgs_cons (pg_name (i := 9) nd rfl (Or.inr rfl)) pgs_nil))))
      (pss_cons (ps_for PassesOwn.never rfl (pi_list (pv 7)) (pg_tup (by rfl) (pgs_cons (pg_name (i := 10) nd rfl (Or.inl rfl)) (pgs_cons (pg_name (i := 11) nd rfl (Or.inr rfl)) (pgs_cons (pg_name (i := 12) nd rfl (Or.inl rfl)) (pgs_cons (pg_name (i := 13) nd rfl (Or.inl rfl)) pgs_nil))))) (pss_cons (ps_set (i := 14) nd rfl (Or.inl rfl) (pe_cal c.tried hr (pa_cons (pv 8) (pa_cons (pe_cal c.msg h3 (pa_cons (pv 10) (pa_cons (pv 11) (pa_cons (pv 12) pa_nil)))) (pa_cons (pv 13) (pa_cons pe_bl pa_nil))))))
      (pss_one (ps_expr (pe_bm PySem.F.plainAttrs_list PySem.F.slot_list_append PySem.F.type_list_append mt_append (pv 9) (pa_cons (pe_ifExp (pt_cmpR op_isN (pv 14) pe_non (by rfl)) pe_non (pe_slice sl_tup (pv 14) (po_some pe_int) po_none)) pa_nil))))))
      (pss_cons (ps_for PassesOwn.never rfl (pi_list (pe_revL (pv 5))) (pg_name (i := 11) nd rfl (Or.inr rfl)) (pss_cons (ps_par (i := 15) (j := 16) (by rfl) nd rfl rfl (by decide) rfl rfl (pa_cons (pe_make MY FY h2 (by rfl) c.gY bY .nil pass0 (pa_cons (pv 2) (pa_cons (pe_cal c.made h3 (pa_cons (pv 3) pa_nil)) pa_nil))) (pa_cons (pe_lst pa_nil) pa_nil)) (by rfl))
      (pss_cons (ps_for PassesOwn.never rfl (pi_list (pv 7)) (pg_tup (by rfl) (pgs_cons (pg_name (i := 10) nd rfl (Or.inl rfl)) (pgs_cons (pg_name (i := 17) nd rfl (Or.inl rfl)) (pgs_cons (pg_name (i := 12) nd rfl (Or.inl rfl)) (pgs_cons (pg_name (i := 13) nd rfl (Or.inl rfl)) pgs_nil))))) (pss_one (ps_if (pt_cmpR op_eq (pv 17) (pv 11) (nomark _)) (pss_cons (ps_set (i := 14) nd rfl (Or.inl rfl) (pe_cal c.tried hr (pa_cons (pv 15) (pa_cons (pe_cal c.msg h3 (pa_cons (pv 10) (pa_cons (pv 11) (pa_cons (pv 12) pa_nil)))) (pa_cons (pv 13) (pa_cons pe_bl pa_nil))))))
      (pss_one (ps_expr (pe_bm PySem.F.plainAttrs_list PySem.F.slot_list_append PySem.F.type_list_append mt_append (pv 16) (pa_cons (pe_ifExp (pt_cmpR op_isN (pv 14) pe_non (by rfl)) pe_non (pe_slice sl_tup (pv 14) (po_some pe_int) po_none)) pa_nil))))) pss_nil)))
      (pss_cons (ps_if (pt_cmpR (op_neTold (Nat.lt_of_le_of_lt (Nat.add_le_add_left (by decide) _) hr.units)) (pv 16) (pe_lc (own := [("k", 22)]) (g := (gName 22)) rfl nd (pi_range1 rfl c.range (pa_cons (pe_callB call_len_seq (by rfl) c.len PySem.boot_len (pa_cons (pv 7) pa_nil)) pa_nil)) (blkOk_by (N := nLaw) (sc := defScope sLaw) (by decide +kernel)) (fun _ _ _ _ _ => pg_name (i := 22) nd rfl (Or.inl rfl)) (fun _ _ _ _ _ => pts_one (pt_cmpR op_eq (pe_ix (r := rIxT K) (by exact ix_tup) (pe_ix (r := rIxL K) (by exact ix_list) (pv 7) (pv 22) (fun _ _ => rfl)) pe_int (fun _ _ => rfl)) (pv 11) (nomark _))) (fun _ _ _ _ _ => pe_ix (r := rIxL K) (by exact ix_list) (pv 9) (pv 22) (fun _ _ => rfl))) (nomark _)) (pss_one (ps_ret pe_bl)) pss_nil)
      (pss_cons (ps_asg (pe_cal c.rows h5 (pa_cons (pv 15) (pa_cons (pv 11) pa_nil))) (pg_tup (by rfl) (pgs_cons (pg_name (i := 18) nd rfl (Or.inl rfl)) (pgs_cons (pg_name (i := 19) nd rfl (Or.inl rfl)) (pgs_cons (pg_name (i := 20) nd rfl (Or.inl rfl)) pgs_nil)))))
      (pss_cons (ps_if (PW.pt (pw_or (pt_cmpR (op_neD hr.units) (pv 20) (pe_lst pa_nil) (nomark _)) (pw_or (pt_not (pt_val (pe_cal c.isrow h2 (pa_cons (pe_ifExp (pt_cmpR (Oc.op_inO WC FC bC h1) (pv 11) (pv 8) (by rfl)) (Gi.pe_own WG FG bG h3 (pv 8) (pv 11)) pe_non) (pa_cons (pv 18) pa_nil))))) (pw_or1 (pt_cmpR (op_neD hr.units) (pe_meth (pv 8) c.clY WH FH h1 bH .nil pass0 (pa_cons (pv 11) pa_nil)) (pv 19) (nomark _)))))) (pss_one (ps_ret pe_bl)) pss_nil)
      (pss_one (ps_if (pt_cmpR (op_neD hr.units) (pe_ix (r := rIxT K) (by exact ix_tup) (pe_cal c.rows h5 (pa_cons (pv 8) (pa_cons (pv 11) pa_nil))) pe_int (fun _ _ => rfl)) (pe_lc (own := [("one", 23)]) (g := (gName 23)) rfl nd (pi_list (pe_callB cr_sortedI (by rfl) c.sorted (by decide +kernel) (pa_cons (pv 5) pa_nil))) (blkOk_by (N := nLaw) (sc := defScope sLaw) (by decide +kernel)) (fun _ _ _ _ _ => pg_name (i := 23) nd rfl (Or.inl rfl)) (fun _ _ _ _ _ => pts_one (PW.pt (pw_and (pt_cmpR op_ne (pv 23) (pv 11) (nomark _)) (pw_and1 (pt_cmpR (Oc.op_inO WC FC bC h1) (pv 23) (pv 8) (by rfl)))))) (fun _ _ _ _ _ => pv 23)) (nomark _)) (pss_one (ps_ret pe_bl)) pss_nil))))))))
      (pss_one (ps_ret pe_bl))))))))))), ?_⟩
    refine sq_set (fun x G1 => ∃ p, x = .ref p ∧ H p = none ∧ Same H G1 ∧ Src G1 p 0) (fun Q q => ⟨_, rfl, a, ns, _, rfl, hS, by omega, by decide, by decide, fun p G1 np s1 hs => q _ _ ⟨p, rfl, np, s1, hs⟩⟩) ?_
    rintro _ G1 ⟨p, rfl, np, s1, S1⟩
    refine sq_set (fun x G2 => ∃ wl ws, x = .ref wl ∧ Keep p G1 G2 ∧ Src G2 p 90 ∧ G2 wl = some (.lst (ws.map V.str)) ∧ ws.length ≤ 4 ∧ GoodWs ws ["key"]) (fun Q q => ?_) ?_
    · refine ⟨_, rfl, _, rfl, p, _, _, rfl, S1, by decide, by decide, by decide, fun G2 m k2 s2 m0 m1 => ⟨(by show 1 ≤ sizeLine; decide), fun L nL => ?_⟩⟩
      refine ⟨p, L, _, m, ["key"], rfl, s2.new nL, by decide, s2.ne nL, upd_same, by decide, ⟨by omega, by omega⟩, fun wl G3 ws nw k3 s3 hw lw gw => ?_⟩
      exact q _ _ ⟨wl, ws, rfl, (k2.trans ((Keep.refl G2).new nL)).trans k3, s3.mono (by decide), hw, by omega, gw⟩
    rintro _ G2 ⟨wl, ws, rfl, k2, S2, hw, lw, gw⟩
    have wp : wl ≠ p := src_ne_strs S2 hw
    refine sq_set (fun x G3 => ∃ g b, x = .ref g ∧ HabIs b ∧ Keep p G2 G3 ∧ Src G3 p 95 ∧ HabDict G3 g b ∧ g ≠ p) (fun Q q => ?_) ?_
    · refine ⟨rfl, fun hl Ga sa nhl ghl => ⟨hl, rfl, ⟨_, SqL.of ghl⟩, fun D nD => ?_⟩⟩
      have Sa := S2.same sa
      have hlp : hl ≠ p := S2.ne nhl
      have Dp : D ≠ p := Sa.ne nD
      have HD : Ga D = none := nD
      refine lc_list (xs := habNames.map V.str) (fun i G => ∃ (kvs : List (Str × Str)) (ps : List Addr), kvs.map (·.1) = habNames.take i ∧ (∀ q ∈ kvs, q.2 ∈ valsOf q.1) ∧ G D = some (.lst (ps.map V.ref)) ∧ ps.length = i ∧ Paired (fun t (q : Str × Str) => G t = some (.tup [.str q.1, .str q.2]) ∧ t ≠ p ∧ t ≠ D) ps kvs ∧ Keep p Ga G ∧ Src G p (90 + i))
        ⟨[], [], rfl, fun _ h => (List.not_mem_nil h).elim, upd_same, rfl, .nil, (Keep.refl Ga).new nD, Sa.new nD⟩ (fun i G _ ⟨_, _, _, _, _, _, _, kG, _⟩ => SqL.of (kG _ _ hlp ghl)) ?_ ?_
      · rintro i x G hx ⟨kvs, ps, hk, hv, gD, lp, pp, kG, SG⟩
        rw [List.getElem?_map] at hx
        obtain ⟨n, hn, rfl⟩ := Option.map_eq_some_iff.mp hx
        have hi : i < 4 := (List.getElem?_eq_some_iff.mp hn).1
        refine ⟨rfl, _, rfl, _, rfl, _, rfl, n, rfl, List.mem_of_getElem? hn, fun l G4 s4 nl gl => ?_⟩
        have S4 := SG.same s4
        obtain ⟨vn, vl⟩ := vals_ne n
        refine ⟨p, l, _, _, rfl, S4, by omega, SG.ne nl, SqL.of gl, (fun e => vn (List.map_eq_nil_iff.mp e)), by rw [List.length_map]; omega, fun G5 y k5 S5 hy => ?_⟩
        obtain ⟨z, hz, rfl⟩ := List.mem_map.mp hy
        refine ⟨(by show 2 ≤ sizeLine; decide), fun u nu => ?_⟩
        have gD5 := k5 _ _ Dp (s4 _ _ gD)
        have su := Lw.Same.new (o := .tup [.str n, .str z]) (Same.refl G5) nu
        have uD : u ≠ D := (ne_of_none gD5 nu).symm
        have up : u ≠ p := S5.ne nu
        have kk : Keep p G (upd G5 u (.tup [.str n, .str z])) := fun b o nb e => su _ _ (k5 _ _ nb (s4 _ _ e))
        refine ⟨_, su _ _ gD5, by rw [List.length_map]; omega, kvs ++ [(n, z)], ps ++ [u], by rw [List.map_append, hk, take_one hn]; rfl, fun q hq => ?_, by rw [upd_same, List.map_append]; rfl, by rw [List.length_append, lp]; rfl, ?_, keep_at HD (kG.trans kk), ?_⟩
        · rcases List.mem_append.mp hq with h | h
          · exact hv q h
          · rw [List.mem_singleton.mp h]
            exact hz
        · exact (pr_mapH (fun t q ⟨e1, e2, e3⟩ => ⟨by rw [upd_ne e3]; exact kk _ _ e2 e1, e2, e3⟩) pp).snoc ⟨by rw [upd_ne uD]; exact upd_same, up, uD⟩
        · obtain ⟨x1, x2, x3, y1, y2⟩ := (S5.same su).mono (show 90 + i + 1 ≤ 90 + (i + 1) by omega)
          exact ⟨x1, x2, x3, by rw [upd_ne Dp.symm]; exact y1, y2⟩
      · rintro G ⟨kvs, ps, hk, hv, gD, lp, pp, kG, SG⟩
        rw [List.length_map] at hk SG
        obtain ⟨va, vb, vc, vd, rfl⟩ := four_habs hk
        refine ⟨D, ps, ([(("present" : Str), va), (("lacking" : Str), vb), (("gone" : Str), vc), (("shared" : Str), vd)] : List (Str × Str)).map fun q => (Sum.inr q.1, V.str q.2), rfl, SqL.of gD, pr_mapR (fun t q ⟨e1, _, _⟩ => SqT.of e1) pp, fun sd nsd => ?_⟩
        have ss := Lw.Same.new (o := .dK (mergeK [] (([(("present" : Str), va), (("lacking" : Str), vb), (("gone" : Str), vc), (("shared" : Str), vd)] : List (Str × Str)).map fun q => (Sum.inr q.1, V.str q.2)))) (Same.refl G) nsd
        refine q _ _ ⟨sd, ⟨va, vb, vc, vd⟩, rfl, ⟨hv ("present", va) (by simp), hv ("lacking", vb) (by simp), hv ("gone", vc) (by simp), hv ("shared", vd) (by simp)⟩, fun b o nb e => ss _ _ (kG _ _ nb (sa _ _ e)), (SG.same ss).mono (by decide), ⟨_, upd_same, rfl, rfl, rfl, rfl⟩, SG.ne nsd⟩
    rintro _ G3 ⟨g, b, rfl, hb, k3, S3, hg, gp⟩
    have hw3 := k3 _ _ wp hw
    refine sq_par (fun x z G4 => ∃ low kl, x = .int low ∧ z = .ref kl ∧ Keep p G3 G4 ∧ Src G4 p 97 ∧ G4 kl = some (.lst []) ∧ kl ≠ p ∧ G3 kl = none) (fun Q q => ?_) ?_
    · refine ⟨_, rfl, _, _, rfl, rfl, ⟨by decide, by decide, by decide⟩, p, _, _, rfl, S3, by decide, by decide, by decide +kernel, fun G4 low k4 S4 => ⟨(by show 0 ≤ sizeLine; decide), fun kl nkl => ?_⟩⟩
      have n3 : G3 kl = none := by
        by_cases e : kl = p
        · subst e
          obtain ⟨_, _, _, z, _⟩ := S4
          rw [z] at nkl
          cases nkl
        · cases z : G3 kl with
          | none => rfl
          | some o => rw [k4 _ _ e z] at nkl; cases nkl
      exact q _ _ _ ⟨low, kl, rfl, rfl, k4.trans ((Keep.refl G4).new nkl), S4.new nkl, upd_same, S4.ne nkl, n3⟩
    rintro _ _ G4 ⟨low, kl, rfl, rfl, k4, S4, hkl, klp, nkl3⟩
    have wkl : wl ≠ kl := ne_of_none hw3 nkl3
    obtain ⟨gkv, hg1, hg2⟩ := hg
    have gkl : g ≠ kl := ne_of_none hg1 nkl3
    have hw4 := k4 _ _ wp hw3
    have hg4 := k4 _ _ gp hg1
    have npH4 : Same H G4 := Keep.same np (Keep.same np (Keep.same np s1 k2) k3) k4
    have nklH : H kl = none := none_of_same (Keep.same np (Keep.same np s1 k2) k3) nkl3
    refine ⟨_, rfl, p, _, _, rfl, S4, by decide, by decide, by decide, fun G5 m k5 S5 m0 m1 => ⟨_, _, rfl, rfl, _, rfl, by omega, by omega, ?_⟩⟩
    generalize hnk : Int.toNat _ = nk
    have lnk : nk ≤ 10 := by omega
    have nk0 : 0 < nk := by omega
    refine for_range (lo := 0) (fun i σ G => ∃ (v6 : Option V) (ks : List Int), σ = [some (.ref a), some (.ref p), some (.ref wl), some (.ref g), some (.int low), some (.ref kl), v6, none, none, none, none, none, none, none, none, none, none, none, none, none, none, none, none, none] ∧ Same H G ∧ Src G p (98 + i) ∧ G wl = some (.lst (ws.map V.str)) ∧ G g = some (.dK gkv) ∧ G kl = some (.lst (ks.map V.int)) ∧ ks.length = i ∧ ks.Nodup ∧ ∀ x ∈ ks, (low ≤ x ∧ x < low + i) ∨ (low - 1 - i < x ∧ x ≤ low - 1))
      ⟨_, [], rfl, Keep.same np npH4 k5, S5, k5 _ _ wp hw4, k5 _ _ gp hg4, k5 _ _ klp hkl, rfl, List.nodup_nil, fun _ h => (List.not_mem_nil h).elim⟩ ?_ ?_
    · rintro i σ G hi ⟨v6, ks, rfl, sG, SG, gw1, gg1, gk1, lk, ndk, bk⟩
      refine g_name ?_
      refine ⟨_, rfl, .inl ⟨rfl, _, SqL.of gk1⟩, ?_⟩
      have fin : ∀ (x : Int) (G6 : Hp), Keep p G G6 → Src G6 p (98 + (i + 1)) → (x = low + i ∨ x = low - 1 - i) → ∀ D : L2.St → Hp → Prop, (∀ (v6 : Option V) (ks : List Int) (G : Hp), Same H G → Src G p (98 + (i + 1)) → G wl = some (.lst (ws.map V.str)) → G g = some (.dK gkv) → G kl = some (.lst (ks.map V.int)) → ks.length = i + 1 → ks.Nodup → (∀ x ∈ ks, (low ≤ x ∧ x < low + ((i + 1 : Nat) : Int)) ∨ (low - 1 - ((i + 1 : Nat) : Int) < x ∧ x ≤ low - 1)) → D [some (.ref a), some (.ref p), some (.ref wl), some (.ref g), some (.int low), some (.ref kl), v6, none, none, none, none, none, none, none, none, none, none, none, none, none, none, none, none, none] G) →
          ∃ l xs y, (V.ref kl : V) = .ref l ∧ ([V.int x] : List V) = [y] ∧ G6 l = some (.lst xs) ∧ xs.length < sizeLine ∧ D [some (.ref a), some (.ref p), some (.ref wl), some (.ref g), some (.int low), some (.ref kl), some (.int (0 + (i : Nat))), none, none, none, none, none, none, none, none, none, none, none, none, none, none, none, none, none] (upd G6 l (.lst (xs ++ [y]))) := fun x G6 k6 S6 hx D kD => by
        have g6 := k6 _ _ klp gk1
        refine ⟨kl, _, _, rfl, rfl, g6, by rw [List.length_map]; omega, ?_⟩
        have kU : Keep kl G6 (upd G6 kl (.lst (ks.map V.int ++ [.int x]))) := fun b2 o2 n e => by
          rw [upd_ne n]
          exact e
        refine kD _ (ks ++ [x]) _ (fun b2 o2 e => kU _ _ (ne_of_none e nklH) ((Keep.same np sG k6) _ _ e)) ?_ (kU _ _ wkl (k6 _ _ wp gw1)) (kU _ _ gkl (k6 _ _ gp gg1)) (by rw [upd_same, List.map_append]; rfl) (by rw [List.length_append, lk]; rfl) ?_ (fun y hy => ?_)
        · obtain ⟨x1, x2, x3, y1, y2⟩ := S6
          exact ⟨x1, x2, x3, kU _ _ klp.symm y1, y2⟩
        · refine List.nodup_append.mpr ⟨ndk, List.nodup_cons.mpr ⟨List.not_mem_nil, List.nodup_nil⟩, fun y hy z hz e => ?_⟩
          rw [List.mem_singleton.mp hz] at e
          have := bk y hy
          omega
        · rcases List.mem_append.mp hy with h | h
          · have := bk y h
            omega
          · rw [List.mem_singleton.mp h]
            omega
      refine ⟨_, rfl, p, _, _, rfl, SG, by omega, by decide, by decide, fun G6 m6 k6 S6 d0 d1 => ⟨rfl, _, rfl, ?_⟩⟩
      by_cases e0 : m6 = 0
      · subst e0
        refine itTb (by decide) ⟨_, rfl, _, rfl, _, _, rfl, rfl, ?_⟩
        exact fin (low + (0 + (i : Int))) G6 k6 (S6.mono (by omega)) (.inl (by omega)) _ fun v6 ks G q1 q2 q3 q4 q5 q6 q7 q8 => ⟨v6, ks, rfl, q1, q2, q3, q4, q5, q6, q7, q8⟩
      · refine itFb (decide_eq_false fun h => e0 (V.int.inj h)) ⟨_, rfl, _, _, rfl, rfl, _, rfl, _, _, rfl, rfl, ?_⟩
        exact fin (low - 1 - (0 + (i : Int))) G6 k6 (S6.mono (by omega)) (.inr (by omega)) _ fun v6 ks G q1 q2 q3 q4 q5 q6 q7 q8 => ⟨v6, ks, rfl, q1, q2, q3, q4, q5, q6, q7, q8⟩
    · rintro σ G ⟨v6, ks, rfl, sG, SG, gw1, gg1, gk1, lk, ndk, bk⟩
      have ks0 : ks ≠ [] := fun z => by
        rw [z] at lk
        have lk : 0 = nk := lk
        omega
      dsimp only
      refine sq_set (fun x G7 => ∃ l es, x = .ref l ∧ Same G G7 ∧ G7 l = some (.lst es) ∧ es.length ≤ 100 ∧ ∀ e ∈ es, PlanE G G7 ws ks [0, 1, 2] e) (fun Q q => ?_) ?_
      · refine ⟨_, rfl, _, rfl, _, rfl, (by show 3 ≤ sizeLine; decide), fun fl nfl => ?_⟩
        have sf := Lw.Same.new (o := .lst [.int 0, .int 1, .int 2]) (Same.refl G) nfl
        refine ⟨a, wl, kl, fl, ns, ws, ks, [0, 1, 2], 40, rfl, (sG.trans sf).seq hS, hlen, sf _ _ gw1, gw.1, fun z hz => (gw.2 z hz).1, by omega, sf _ _ gk1, ks0, by omega, upd_same, (fun e => by cases e), by decide, by decide, by decide, fun l es G7 s7 hl les hpl => ?_⟩
        refine q _ _ ⟨l, es, rfl, sf.trans s7, hl, les, fun e he => ?_⟩
        obtain ⟨t, c, z, key, f, kvs, e1, e2, e3⟩ := hpl e he
        exact ⟨t, c, z, key, f, kvs, e1, none_of_same sf e2, e3⟩
      rintro _ G7 ⟨l, es, rfl, s7, hl7, les, hpl⟩
      obtain ⟨pl, epl, hpl⟩ := plans_of es hpl
      have lpl : pl.length ≤ 100 := by
        have := congrArg List.length epl
        rw [List.length_map] at this
        omega
      have hw7 := s7 _ _ gw1
      have hg7 : HabDict G7 g b := ⟨gkv, s7 _ _ gg1, hg2⟩
      have hk7 := s7 _ _ gk1
      have mkc : ∀ (Gl : Hp) (R : Addr → Hp → Prop), Same G7 Gl → (∀ cp d hh G', Gl cp = none → Gl d = none → Same Gl G' → CopyOk CY CH G' cp d hh b ws 0 (fun _ => none) → R cp G') →
          spMade CH [.ref g] Gl (fun v G1 => ∀ x dx, G1 x = none → G1 dx = none → dx ≠ x → spCopyI CY CH [.ref x, .ref wl, v] (upd (upd G1 dx (.own x)) x (.ins CY dx [])) (fun v' H2 => v' = .non ∧ R x H2) (fun _ _ _ => False)) (fun _ _ _ => False) := fun Gl R sl q => by
        refine ⟨g, b, rfl, hg7.same sl, hb, fun hh Ga sa nh ha x2 dx2 nx2 ndx2 ne2 => ?_⟩
        have i2 : Same Ga (upd (upd Ga dx2 (.own x2)) x2 (.ins CY dx2 [])) := fun b z h => by
          rw [upd_ne (ne_of_none h nx2), upd_ne (ne_of_none h ndx2)]
          exact h
        obtain ⟨dh, ha2⟩ := ha
        refine ⟨x2, dx2, wl, hh, ws, b, rfl, upd_same, .inl (i2 _ _ (sa _ _ (sl _ _ hw7))), ⟨dh, i2 _ _ ha2⟩, fun d Gc nd2 kc hc => ⟨rfl, ?_⟩⟩
        have sGc := keep_ins2 nx2 ndx2 kc
        exact q x2 d hh Gc (none_of_same sa nx2) (none_of_same sa (none_of_same i2 nd2)) (sa.trans sGc) hc
      refine sq_asg2 (fun x z G8 => ∃ pw dw hw rl, x = .ref pw ∧ z = .ref rl ∧ Same G7 G8 ∧ CopyOk CY CH G8 pw dw hw b ws 0 (fun _ => none) ∧ (∀ D, KeysOf G8 pw D → D ≠ rl) ∧ G8 rl = some (.lst []) ∧ G7 pw = none ∧ G7 dw = none ∧ G7 rl = none) (fun Q q => ?_) ?_
      · refine ⟨_, rfl, _, rfl, mkc G7 _ (Same.refl _) fun pw dw hw G8 np nd s8 C8 => ?_⟩
        refine ⟨(by show 0 ≤ sizeLine; decide), fun rl nrl => ?_⟩
        have sr := Lw.Same.new (o := .lst []) (Same.refl G8) nrl
        refine ⟨(by show 2 ≤ sizeLine; decide), fun t nt => ?_⟩
        have st := Lw.Same.new (o := .tup [.ref pw, .ref rl]) (Same.refl (upd G8 rl (.lst []))) nt
        obtain ⟨dx, t0, l0, mks, ks1, g1, _, _, g4, _⟩ := id C8.at_
        exact q t _ _ _ upd_same ⟨pw, dw, hw, rl, rfl, rfl, s8.trans (sr.trans st), (C8.same sr).same st, (fun D hD => by rw [hD.eq (st _ _ (sr _ _ g1))]; exact ne_of_none g4 nrl), st _ _ upd_same, np, nd, none_of_same s8 nrl⟩
      rintro _ _ G8 ⟨pw, dw, hw, rl, rfl, rfl, s8, C8, nk8, hrl, npw, ndw, nrl⟩
      have hplN : ∀ {G' : Hp}, Same G7 G' → ∀ e ∈ pl, PlanOk G G' ws ks [0, 1, 2] e := fun s e he => (hpl e he).same s
      have wok : ∀ z ∈ ws, IsWord z := fun z hz => (gw.2 z hz).1
      refine ⟨_, rfl, l, rfl, ⟨_, SqL.of (s8 _ _ hl7)⟩, ?_⟩
      refine for_list (xs := es) (fun i σ G9 => ∃ (v10 v11 v12 v13 v14 : Option V) (S : Nat → StF) (rs : List V), σ = [some (.ref a), some (.ref p), some (.ref wl), some (.ref g), some (.int low), some (.ref kl), v6, some (.ref l), some (.ref pw), some (.ref rl), v10, v11, v12, v13, v14, none, none, none, none, none, none, none, none, none] ∧ Same G7 G9 ∧ CopyOk CY CH G9 pw dw hw b ws i (S i) ∧ G9 rl = some (.lst rs) ∧ rs.length = i ∧ Trace b ws pl S i ∧
          (∀ j, j ≤ i → ∀ k, GoodO ws (S j k) ∧ FeedsIn [0, 1, 2] (S j k)) ∧ (∀ k, (S i k).isSome = true → k ∈ ks) ∧ (∀ j e v, j < i → pl[j]? = some e → rs[j]? = some v → TlE G9 dw b ws e.z (S j e.key) v) ∧ ∀ D, KeysOf G9 pw D → D ≠ rl)
        ⟨_, _, _, _, _, fun _ _ => none, [], rfl, s8, C8, hrl, rfl, ⟨rfl, fun j e h => absurd h (Nat.not_lt_zero _)⟩, fun j _ k => ⟨(fun _ _ e => (by cases e)), (fun _ _ e => (by cases e))⟩, (fun k h => (by cases h)), (fun j e v h => absurd h (Nat.not_lt_zero _)), nk8⟩ (fun i σ G9 _ ⟨_, _, _, _, _, _, _, _, s, _⟩ => SqL.of (s _ _ hl7)) ?_ ?_
      · rintro i x σ G9 hx ⟨v10, v11, v12, v13, v14, S, rs, rfl, s9, C9, hr9, lr9, tr, gO, kin, tle, nk9⟩
        rw [epl, List.getElem?_map] at hx
        obtain ⟨e, he, rfl⟩ := Option.map_eq_some_iff.mp hx
        have hin := List.mem_of_getElem? he
        have hi : i < pl.length := (List.getElem?_eq_some_iff.mp he).1
        have P9 := hplN s9 e hin
        refine ⟨e.t, _, rfl, SqT.of P9.at_, rfl, _, _, rfl, _, _, rfl, _, _, rfl, _, _, rfl, rfl, ?_⟩
        have gk := gO i (Nat.le_refl _) e.key
        have fin1 : ∀ (o' : Option (List V × List Int)) (v : V) (Gz : Hp), CopyOk CY CH Gz pw dw hw b ws (i + 1) (setSt (S i) e.key o') → Gz rl = some (.lst (rs ++ [v])) → StepR b ws e.z e.kvs e.f (S i e.key) o' → (∀ j e v, j < i → pl[j]? = some e → rs[j]? = some v → TlE Gz dw b ws e.z (S j e.key) v) → TlE Gz dw b ws e.z (S i e.key) v →
            ∃ (S' : Nat → StF) (rs' : List V), CopyOk CY CH Gz pw dw hw b ws (i + 1) (S' (i + 1)) ∧ Gz rl = some (.lst rs') ∧ rs'.length = i + 1 ∧ Trace b ws pl S' (i + 1) ∧ (∀ j, j ≤ i + 1 → ∀ k, GoodO ws (S' j k) ∧ FeedsIn [0, 1, 2] (S' j k)) ∧ (∀ k, (S' (i + 1) k).isSome = true → k ∈ ks) ∧ ∀ j e v, j < i + 1 → pl[j]? = some e → rs'[j]? = some v → TlE Gz dw b ws e.z (S' j e.key) v := fun o' v Gz c h1 st tl1 tl2 => by
          have good : GoodO ws o' ∧ FeedsIn [0, 1, 2] o' := by
            rcases st with ⟨_, eo⟩ | ⟨_, ap⟩
            · rw [eo]
              exact gk
            · exact good_step gk.1 gk.2 P9.feed (wayok2 hb P9.deed) P9.row.2.1 ap
          refine ⟨ext S i (setSt (S i) e.key o'), rs ++ [v], by rw [ext_gt]; exact c, h1, by rw [List.length_append, lr9]; rfl, tr.step he st, fun j hj k => ?_, fun k hk => ?_, fun j e2 v2 hj he2 hv2 => ?_⟩
          · by_cases q : j ≤ i
            · rw [ext_le q]
              exact gO j q k
            · have ej : j = i + 1 := by omega
              subst ej
              rw [ext_gt]
              unfold setSt
              by_cases ek : k = e.key
              · rw [if_pos ek]
                exact good
              · rw [if_neg ek]
                exact gO i (Nat.le_refl _) k
          · rw [ext_gt] at hk
            unfold setSt at hk
            by_cases ek : k = e.key
            · rw [ek]
              exact P9.key
            · rw [if_neg ek] at hk
              exact kin k hk
          · rw [ext_le (Nat.le_of_lt_succ hj)]
            by_cases q : j = i
            · subst q
              rw [he] at he2
              cases he2
              rw [List.getElem?_append_right (Nat.le_of_eq lr9), lr9, Nat.sub_self] at hv2
              cases hv2
              exact tl2
            · have hl : j < i := by omega
              rw [List.getElem?_append_left (by omega)] at hv2
              exact tl1 j e2 v2 hl he2 hv2
        obtain ⟨dx, t0, l0, mks, ks1, g1, _, g3, _⟩ := id C9.at_
        refine sq_set (fun x G10 => (x = .non ∧ wayOf b (S i e.key).isSome e.z ≠ "stop" ∧ ∃ o', AppR (wayOf b (S i e.key).isSome e.z) ws e.kvs e.f (S i e.key) o' ∧ Keep2 pw dw G9 G10 ∧ CopyOk CY CH G10 pw dw hw b ws (i + 1) (setSt (S i) e.key o') ∧ ∀ D, KeysOf G10 pw D → D ≠ rl) ∨ (wayOf b (S i e.key).isSome e.z = "stop" ∧ ∃ t m r, x = .ref t ∧ Same G9 G10 ∧ G10 t = some (.tup [.ref m, r, .bl true]) ∧ RowE G10 r (toldO ws (S i e.key)))) (fun Q q => ?_) ?_
        · refine ⟨_, rfl, _, rfl, _, rfl, _, rfl, e.z, e.key, e.c, e.kvs, rfl, P9.deed, P9.ce, P9.tk, fun mm Gm sm hm => ⟨_, rfl, ?_⟩⟩
          refine ⟨pw, dw, hw, mm, b, ws, i, S i, G9, e.z, e.key, e.f, e.kvs, true, rfl, C9.same sm, by omega, gw.1, by omega, hm, fun row fs eo => ⟨(gk.1 row fs eo).1, Nat.le_trans (nodup_le40 (gk.1 row fs eo).2.2.2.1 (gk.2 row fs eo)) (by decide), (gk.1 row fs eo).2.2.2.2⟩, wayok2 hb P9.deed, fun hs t r G10 s10 ht hr => ?_, fun hs G10 o' k10 ap c10 kk10 => ?_⟩
          · exact q _ _ (.inr ⟨hs, t, mm, r, rfl, sm.trans s10, ht, hr⟩)
          · refine q _ _ (.inl ⟨rfl, hs, o', ap, fun a o n1 n2 e => k10 a o n1 n2 (sm _ _ e), c10, fun D hD => ?_⟩)
            rcases kk10 D hD with q | q
            · exact nk9 D (q.back43 ((sm _ _ g1).trans g1.symm))
            · intro z
              rw [z, sm _ _ hr9] at q
              cases q
        rintro x G10 (⟨rfl, hs, o', ap, k10, c10, nk10⟩ | ⟨hs, t, m2, r, rfl, s10, ht, hr⟩)
        · have hr10 := k10 _ _ (fun z => by rw [z, g1] at hr9; cases hr9) (fun z => by rw [z, g3] at hr9; cases hr9) hr9
          refine ⟨_, rfl, .inl ⟨rfl, _, SqL.of hr10⟩, _, rfl, rfl, _, rfl, itTb (by simp) ⟨rl, _, _, rfl, rfl, hr10, by omega, ?_⟩⟩
          have kU : Keep rl G10 (upd G10 rl (.lst (rs ++ [.non]))) := fun b2 o2 n e => by
            rw [upd_ne n]
            exact e
          obtain ⟨dx2, t2, l2, _, _, g21, _, g23, _⟩ := id c10.at_
          have cU := c10.keepL hr10 nk10 kU
          have plr : pw ≠ rl := fun z => by rw [z, hr10] at g21; cases g21
          have nkU : ∀ D, KeysOf (upd G10 rl (.lst (rs ++ [.non]))) pw D → D ≠ rl := fun D hD => nk10 D (hD.back43 (upd_ne plr))
          have gU : (upd G10 rl (.lst (rs ++ [.non]))) rl = some (.lst (rs ++ [.non])) := upd_same
          generalize upd G10 rl (.lst (rs ++ [.non])) = Gz at kU cU nkU gU ⊢
          have tlU : ∀ j e v, j < i → pl[j]? = some e → rs[j]? = some v → TlE Gz dw b ws e.z (S j e.key) v := fun j e v hj he hv => ((tle j e v hj he hv).keep2 g1 g3 k10).keepR hr10 kU
          obtain ⟨S', rs', w1, w2, w3, w4, w5, w6, w7⟩ := fin1 o' .non Gz cU gU (.inr ⟨hs, ap⟩) tlU (.inl ⟨hs, rfl⟩)
          exact ⟨_, _, _, _, _, S', rs', rfl, fun b2 o2 e => kU _ _ (ne_of_none e nrl) (k10 _ _ (ne_of_none e npw) (ne_of_none e ndw) (s9 _ _ e)), w1, w2, w3, w4, w5, w6, w7, nkU⟩
        · have hr10 := s10 _ _ hr9
          refine ⟨_, rfl, .inl ⟨rfl, _, SqL.of hr10⟩, _, rfl, rfl, _, rfl, itFb (by simp) ⟨_, rfl, 1, rfl, t, _, rfl, SqT.of ht, (by show ¬ (HT.sIx 3 0 (some 1) = 0 ∧ HT.sIx 3 3 none = 3); decide), fun p2 np2 => ?_⟩⟩
          have ec : cutV [V.ref m2, r, .bl true] (some 1) none = [r, .bl true] := rfl
          rw [ec]
          have s11 := Lw.Same.new (o := .tup [r, .bl true]) (Same.refl G10) np2
          have gp2 : (upd G10 p2 (.tup [r, .bl true])) p2 = some (.tup [r, .bl true]) := upd_same
          generalize upd G10 p2 (.tup [r, .bl true]) = G11 at s11 gp2 ⊢
          have hr11 := s11 _ _ hr10
          refine ⟨rl, _, _, rfl, rfl, hr11, by omega, ?_⟩
          have s9b := s10.trans s11
          have kU : Keep rl G11 (upd G11 rl (.lst (rs ++ [.ref p2]))) := fun b2 o2 n e => by
            rw [upd_ne n]
            exact e
          have c11 := C9.same s9b
          obtain ⟨dx2, t2, l2, _, _, g21, _, g23, _⟩ := id c11.at_
          have nk11 : ∀ D, KeysOf G11 pw D → D ≠ rl := fun D hD => nk9 D (hD.back43 ((s9b _ _ g1).trans g1.symm))
          have cU := c11.keepL hr11 nk11 kU
          have plr : pw ≠ rl := fun z => by rw [z, hr11] at g21; cases g21
          have nkU : ∀ D, KeysOf (upd G11 rl (.lst (rs ++ [.ref p2]))) pw D → D ≠ rl := fun D hD => nk11 D (hD.back43 (upd_ne plr))
          have gU : (upd G11 rl (.lst (rs ++ [.ref p2]))) rl = some (.lst (rs ++ [.ref p2])) := upd_same
          generalize upd G11 rl (.lst (rs ++ [.ref p2])) = Gz at kU cU nkU gU ⊢
          have tlU : ∀ j e v, j < i → pl[j]? = some e → rs[j]? = some v → TlE Gz dw b ws e.z (S j e.key) v := fun j e v hj he hv => ((tle j e v hj he hv).same s9b).keepR hr11 kU
          have tl2 : TlE G11 dw b ws e.z (S i e.key) (.ref p2) := .inr ⟨hs, p2, r, rfl, gp2, hr.same s11, rowE_ne C9 s10 hr (fun row fs eo => (gk.1 row fs eo).1) gw.1⟩
          have cS : CopyOk CY CH Gz pw dw hw b ws (i + 1) (setSt (S i) e.key (S i e.key)) := by
            rw [setSt_self rfl]
            exact cU.mono (Nat.le_succ _)
          obtain ⟨S', rs', w1, w2, w3, w4, w5, w6, w7⟩ := fin1 (S i e.key) (.ref p2) Gz cS gU (.inl ⟨hs, rfl⟩) tlU (tl2.keepR hr11 kU)
          exact ⟨_, _, _, _, _, S', rs', rfl, fun b2 o2 e => kU _ _ (ne_of_none e nrl) (s9b _ _ (s9 _ _ e)), w1, w2, w3, w4, w5, w6, w7, nkU⟩
      · rintro σ G9 ⟨v10, v11, v12, v13, v14, S, rs, rfl, s9, C9, hr9, lr9, tr, gO, kin, tle, nk9⟩
        dsimp only
        have lN : es.length = pl.length := by rw [epl, List.length_map]
        rw [lN] at C9 lr9 tr gO kin tle
        generalize hN : pl.length = N at C9 lr9 tr gO kin tle lpl
        have hk9 := s9 _ _ hk7
        refine ⟨_, rfl, kl, _, rfl, SqL.of hk9, fun rv nrv => ⟨rv, rfl, ⟨_, SqL.of upd_same⟩, ?_⟩⟩
        have sr := Lw.Same.new (o := .lst (ks.map V.int).reverse) (Same.refl G9) nrv
        have grv : (upd G9 rv (.lst (ks.map V.int).reverse)) rv = some (.lst (ks.map V.int).reverse) := upd_same
        generalize upd G9 rv (.lst (ks.map V.int).reverse) = G10 at sr grv ⊢
        have C10 := C9.same sr
        have s710 := s9.trans sr
        have hr10 := sr _ _ hr9
        obtain ⟨dx, t0, l0, mks, ks1, g1, _, g3, _⟩ := id C10.at_
        refine for_list (xs := (ks.map V.int).reverse) (fun i σ G => ∃ (v10 v11 v12 v13 v14 v15 v16 v17 v18 v19 v20 : Option V), σ = [some (.ref a), some (.ref p), some (.ref wl), some (.ref g), some (.int low), some (.ref kl), v6, some (.ref l), some (.ref pw), some (.ref rl), v10, v11, v12, v13, v14, v15, v16, v17, v18, v19, v20, none, none, none] ∧ Same G10 G)
          ⟨_, _, _, _, _, _, _, _, _, _, _, rfl, Same.refl _⟩ (fun i σ G _ ⟨_, _, _, _, _, _, _, _, _, _, _, _, s⟩ => SqL.of (s _ _ grv)) ?_ ?_
        · rintro i x σ G hx ⟨v10, v11, v12, v13, v14, v15, v16, v17, v18, v19, v20, rfl, sG10⟩
          rw [← List.map_reverse, List.getElem?_map] at hx
          obtain ⟨key, hkey, rfl⟩ := Option.map_eq_some_iff.mp hx
          have hkin : key ∈ ks := List.mem_reverse.mp (List.mem_of_getElem? hkey)
          refine g_name ?_
          have s7G := s710.trans sG10
          refine sq_par (fun x z G12 => ∃ ps ds hs ml, x = .ref ps ∧ z = .ref ml ∧ Same G G12 ∧ CopyOk CY CH G12 ps ds hs b ws 0 (fun _ => none) ∧ (∀ D, KeysOf G12 ps D → D ≠ ml) ∧ G12 ml = some (.lst []) ∧ G ps = none ∧ G ds = none ∧ G ml = none) (fun Q q => ?_) ?_
          · refine ⟨_, rfl, _, rfl, mkc G _ s7G fun ps ds hs G12 np nd s12 C12 => ⟨(by show 0 ≤ sizeLine; decide), fun ml nml => ?_⟩⟩
            have sr := Lw.Same.new (o := .lst []) (Same.refl G12) nml
            obtain ⟨dx, t0, l0, mks, ks1, g1, _, _, g4, _⟩ := id C12.at_
            exact q _ _ _ ⟨ps, ds, hs, ml, rfl, rfl, s12.trans sr, C12.same sr, (fun D hD => by rw [hD.eq (sr _ _ g1)]; exact ne_of_none g4 nml), upd_same, np, nd, none_of_same s12 nml⟩
          rintro _ _ G12 ⟨ps, ds, hs, ml, rfl, rfl, s12, C12, nk12, hml, nps, nds, nml⟩
          have s10G : Same G10 G := sG10
          have tleG : ∀ j e w, j < N → pl[j]? = some e → rs[j]? = some w → TlE G ds b ws e.z (S j e.key) w := fun j e w h1 h2 h3 => ((tle j e w h1 h2 h3).same (sr.trans s10G)).new nds
          refine ⟨_, rfl, l, rfl, ⟨_, SqL.of (s12 _ _ (s7G _ _ hl7))⟩, ?_⟩
          refine for_list (xs := es) (fun i σ Gi => ∃ (v10 v12 v13 v14 v17 : Option V) (ms : List V), σ = [some (.ref a), some (.ref p), some (.ref wl), some (.ref g), some (.int low), some (.ref kl), v6, some (.ref l), some (.ref pw), some (.ref rl), v10, some (.int key), v12, v13, v14, some (.ref ps), some (.ref ml), v17, v18, v19, v20, none, none, none] ∧ Same G Gi ∧ CopyOk CY CH Gi ps ds hs b ws i (setSt (fun _ => none) key (S i key)) ∧ Gi ml = some (.lst ms) ∧ ms.length ≤ i ∧ Paired (MineR Gi ds b ws) ms (sel pl rs key i) ∧ ∀ D, KeysOf Gi ps D → D ≠ ml)
            ⟨_, _, _, _, _, [], rfl, s12, by rw [tr.1, setSt_none]; exact C12, hml, Nat.le_refl _, .nil, nk12⟩ (fun i σ Gi _ ⟨_, _, _, _, _, _, _, s, _⟩ => SqL.of (s _ _ (s7G _ _ hl7))) ?_ ?_
          · rintro i x σ Gi hx ⟨v10, v12, v13, v14, v17, ms, rfl, si, Ci, hmi, lms, pr, nki⟩
            rw [epl, List.getElem?_map] at hx
            obtain ⟨e, he, rfl⟩ := Option.map_eq_some_iff.mp hx
            have hin := List.mem_of_getElem? he
            have hi : i < N := by rw [← hN]; exact (List.getElem?_eq_some_iff.mp he).1
            have Pi := hplN (s7G.trans si) e hin
            obtain ⟨w, hw9⟩ : ∃ w, rs[i]? = some w := ⟨_, List.getElem?_eq_getElem (by omega)⟩
            obtain ⟨o', hst, hS⟩ := tr.2 i e hi he
            have gk := gO i (Nat.le_of_lt hi) key
            refine ⟨e.t, _, rfl, SqT.of Pi.at_, rfl, _, _, rfl, _, _, rfl, _, _, rfl, _, _, rfl, rfl, ?_⟩
            refine s1_if (fun bb Gx => Gi = Gx ∧ bb = decide (e.key = key)) (fun Q q => ⟨_, rfl, _, rfl, rfl, _, rfl, q _ _ ⟨rfl, decide_eq_decide.mpr ⟨fun h => V.int.inj h, fun h => by rw [h]⟩⟩⟩) ?_ ?_
            · rintro _ ⟨rfl, ek⟩
              have ek : e.key = key := of_decide_eq_true ek.symm
              have esel : sel pl rs key (i + 1) = sel pl rs key i ++ [w] := by rw [sel_succ he hw9, if_pos ek]
              rw [ek] at hst hS
              have eS : S (i + 1) key = o' := by rw [hS]; exact setSt_at
              have tw := tleG i e w hi he hw9
              rw [ek] at tw
              obtain ⟨ex, t1, l1, mk1, ks2, q1, _, q3, _⟩ := id Ci.at_
              have hat : setSt (fun _ => none) key (S i key) key = S i key := setSt_at
              refine sq_set (fun x G13 => (x = .non ∧ wayOf b (S i key).isSome e.z ≠ "stop" ∧ Keep2 ps ds Gi G13 ∧ CopyOk CY CH G13 ps ds hs b ws (i + 1) (setSt (fun _ => none) key (S (i + 1) key)) ∧ ∀ D, KeysOf G13 ps D → D ≠ ml) ∨ (wayOf b (S i key).isSome e.z = "stop" ∧ ∃ t m r, x = .ref t ∧ Same Gi G13 ∧ G13 t = some (.tup [.ref m, r, .bl true]) ∧ RowE G13 r (toldO ws (S i key)))) (fun Q q => ?_) ?_
              · refine ⟨_, rfl, _, rfl, _, rfl, _, rfl, e.z, key, e.c, e.kvs, rfl, Pi.deed, Pi.ce, Pi.tk, fun mm Gm sm hm => ⟨_, rfl, ?_⟩⟩
                refine ⟨ps, ds, hs, mm, b, ws, i, _, Gi, e.z, key, e.f, e.kvs, false, rfl, Ci.same sm, by omega, gw.1, by omega, hm, ?_, ?_, ?_, ?_⟩
                · rw [hat]
                  exact fun row fs eo => ⟨(gk.1 row fs eo).1, Nat.le_trans (nodup_le40 (gk.1 row fs eo).2.2.2.1 (gk.2 row fs eo)) (by decide), (gk.1 row fs eo).2.2.2.2⟩
                · rw [hat]
                  exact wayok2 hb Pi.deed
                · rw [hat]
                  exact fun hs t r G10 s10 ht hr => q _ _ (.inr ⟨hs, t, mm, r, rfl, sm.trans s10, ht, hr⟩)
                · rw [hat]
                  intro hs2 G13 o2 k13 ap c13 kk13
                  have eo : o2 = o' := StepR.one (.inr ⟨hs2, ap⟩) hst
                  rw [eo, setSt_setSt, ← eS] at c13
                  refine q _ _ (.inl ⟨rfl, hs2, fun a o n1 n2 e => k13 a o n1 n2 (sm _ _ e), c13, fun D hD => ?_⟩)
                  rcases kk13 D hD with h | h
                  · exact nki D (h.back43 ((sm _ _ q1).trans q1.symm))
                  · intro z
                    rw [z, sm _ _ hmi] at h
                    cases h
              have mv : ∀ {Gz : Hp}, (∀ {z : Str} {o : Option (List V × List Int)} {v : V}, TlE Gi ds b ws z o v → TlE Gz ds b ws z o v) → Paired (MineR Gz ds b ws) ms (sel pl rs key i) := fun f => pr_mapH (fun v w ⟨z, o, m1, m2, m3⟩ => ⟨z, o, m1, f m2, f m3⟩) pr
              rintro x G13 (⟨rfl, hs2, k13, c13, nk13⟩ | ⟨hs2, t, m2, r, rfl, s13, ht, hr⟩)
              · have hm13 := k13 _ _ (fun z => by rw [z, q1] at hmi; cases hmi) (fun z => by rw [z, q3] at hmi; cases hmi) hmi
                refine ⟨_, rfl, .inl ⟨rfl, _, SqL.of hm13⟩, _, rfl, rfl, _, rfl, itTb (by simp) ⟨ml, _, _, rfl, rfl, hm13, by omega, ?_⟩⟩
                have kU : Keep ml G13 (upd G13 ml (.lst (ms ++ [.non]))) := fun b2 o2 n e => by
                  rw [upd_ne n]
                  exact e
                obtain ⟨dx2, t2, l2, _, _, g21, _, g23, _⟩ := id c13.at_
                have cU := c13.keepL hm13 nk13 kU
                have plr : ps ≠ ml := fun z => by rw [z, hm13] at g21; cases g21
                have nkU : ∀ D, KeysOf (upd G13 ml (.lst (ms ++ [.non]))) ps D → D ≠ ml := fun D hD => nk13 D (hD.back43 (upd_ne plr))
                have gU : (upd G13 ml (.lst (ms ++ [.non]))) ml = some (.lst (ms ++ [.non])) := upd_same
                generalize upd G13 ml (.lst (ms ++ [.non])) = Gz at kU cU nkU gU ⊢
                have f : ∀ {z : Str} {o : Option (List V × List Int)} {v : V}, TlE Gi ds b ws z o v → TlE Gz ds b ws z o v := fun h => (h.keep2 q1 q3 k13).keepR hm13 kU
                exact ⟨_, _, _, _, _, ms ++ [.non], rfl, fun b2 o2 e => kU _ _ (ne_of_none e nml) (k13 _ _ (ne_of_none e nps) (ne_of_none e nds) (si _ _ e)), cU, gU, by rw [List.length_append]; exact Nat.add_le_add_right lms 1, by rw [esel]; exact (mv f).snoc ⟨e.z, S i key, gk.1, .inl ⟨hs2, rfl⟩, f (tw.same si)⟩, nkU⟩
              · have hm13 := s13 _ _ hmi
                refine ⟨_, rfl, .inl ⟨rfl, _, SqL.of hm13⟩, _, rfl, rfl, _, rfl, itFb (by simp) ⟨_, rfl, 1, rfl, t, _, rfl, SqT.of ht, (by show ¬ (HT.sIx 3 0 (some 1) = 0 ∧ HT.sIx 3 3 none = 3); decide), fun p2 np2 => ?_⟩⟩
                have ec : cutV [V.ref m2, r, .bl true] (some 1) none = [r, .bl true] := rfl
                rw [ec]
                have s14 := Lw.Same.new (o := .tup [r, .bl true]) (Same.refl G13) np2
                have gp2 : (upd G13 p2 (.tup [r, .bl true])) p2 = some (.tup [r, .bl true]) := upd_same
                generalize upd G13 p2 (.tup [r, .bl true]) = G14 at s14 gp2 ⊢
                have hm14 := s14 _ _ hm13
                refine ⟨ml, _, _, rfl, rfl, hm14, by omega, ?_⟩
                have sib := s13.trans s14
                have kU : Keep ml G14 (upd G14 ml (.lst (ms ++ [.ref p2]))) := fun b2 o2 n e => by
                  rw [upd_ne n]
                  exact e
                have c14 := Ci.same sib
                obtain ⟨dx2, t2, l2, _, _, g21, _, g23, _⟩ := id c14.at_
                have nk14 : ∀ D, KeysOf G14 ps D → D ≠ ml := fun D hD => nki D (hD.back43 ((sib _ _ q1).trans q1.symm))
                have cU := c14.keepL hm14 nk14 kU
                have plr : ps ≠ ml := fun z => by rw [z, hm14] at g21; cases g21
                have nkU : ∀ D, KeysOf (upd G14 ml (.lst (ms ++ [.ref p2]))) ps D → D ≠ ml := fun D hD => nk14 D (hD.back43 (upd_ne plr))
                have gU : (upd G14 ml (.lst (ms ++ [.ref p2]))) ml = some (.lst (ms ++ [.ref p2])) := upd_same
                generalize upd G14 ml (.lst (ms ++ [.ref p2])) = Gz at kU cU nkU gU ⊢
                have f : ∀ {z : Str} {o : Option (List V × List Int)} {v : V}, TlE Gi ds b ws z o v → TlE Gz ds b ws z o v := fun h => (h.same sib).keepR hm14 kU
                have tl2 : TlE G14 ds b ws e.z (S i key) (.ref p2) := .inr ⟨hs2, p2, r, rfl, gp2, hr.same s14, rowE_ne (key := key) Ci s13 (by rw [hat]; exact hr) (by rw [hat]; exact fun row fs eo => (gk.1 row fs eo).1) gw.1⟩
                have eo : S (i + 1) key = S i key := by
                  rw [eS]
                  exact StepR.one hst (.inl ⟨hs2, rfl⟩)
                exact ⟨_, _, _, _, _, ms ++ [.ref p2], rfl, fun b2 o2 e => kU _ _ (ne_of_none e nml) (sib _ _ (si _ _ e)), by rw [eo]; exact cU.mono (Nat.le_succ _), gU, by rw [List.length_append]; exact Nat.add_le_add_right lms 1, by rw [esel]; exact (mv f).snoc ⟨e.z, S i key, gk.1, tl2.keepR hm14 kU, f (tw.same si)⟩, nkU⟩
            · rintro _ ⟨rfl, ek⟩
              have ek : e.key ≠ key := of_decide_eq_false ek.symm
              have esel : sel pl rs key (i + 1) = sel pl rs key i := by rw [sel_succ he hw9, if_neg ek, List.append_nil]
              have eS : S (i + 1) key = S i key := by
                rw [hS]
                unfold setSt
                rw [if_neg fun z => ek z.symm]
              exact ⟨_, _, _, _, _, ms, rfl, si, by rw [eS]; exact Ci.mono (Nat.le_succ _), hmi, Nat.le_succ_of_le lms, by rw [esel]; exact pr, nki⟩
          · rintro σ Gi ⟨v10, v12, v13, v14, v17, ms, rfl, si, Ci, hmi, lms, pr, nki⟩
            rw [lN, hN] at Ci lms pr
            dsimp only
            have sGi := s7G.trans si
            have s10i := sG10.trans si
            have hl13 := sGi _ _ hl7
            have hr13 := s10i _ _ hr10
            have N100 : N ≤ 100 := lpl
            have lwl : ws.length ≤ 60 := by omega
            refine sq_if1 (fun bb Gx => Same Gi Gx ∧ bb = false) (fun Q q => ?_) (fun _ h => by cases h.2) ?_
            · refine ⟨_, rfl, ?_⟩
              refine ⟨_, rfl, l, _, rfl, .inl (SqL.of hl13), _, rfl, by omega, by omega, fun D nD => ?_⟩
              refine lc_range (lo := 0) (fun i Gx => Same Gi Gx ∧ Gx D = some (.lst (sel pl rs key i))) ⟨Lw.Same.new (Same.refl Gi) nD, upd_same⟩ ?_ ?_
              · rintro j Gx hj ⟨sx, gD⟩
                have hj2 : j < N := by
                  rw [lN, hN] at hj
                  omega
                obtain ⟨e, he⟩ : ∃ e, pl[j]? = some e := ⟨_, List.getElem?_eq_getElem (by omega)⟩
                obtain ⟨w, hw9⟩ : ∃ w, rs[j]? = some w := ⟨_, List.getElem?_eq_getElem (by omega)⟩
                have hes : es[j]? = some (V.ref e.t) := by rw [epl, List.getElem?_map, he]; rfl
                have Pj := hplN (sGi.trans sx) e (List.mem_of_getElem? he)
                refine ⟨rfl, _, rfl, _, rfl, l, _, _, _, rfl, rfl, SqL.of (sx _ _ hl13), (by rw [Int.zero_add]; exact atI_nat hes), e.t, _, 1, _, rfl, rfl, SqT.of Pj.at_, rfl, _, rfl, rfl, _, rfl, ?_⟩
                by_cases ek : e.key = key
                · refine itTb (decide_eq_true (by rw [ek])) ⟨_, rfl, _, rfl, rl, _, _, _, rfl, rfl, SqL.of (sx _ _ hr13), (by rw [Int.zero_add]; exact atI_nat hw9), _, gD, ?_, same_at nD sx, ?_⟩
                  · unfold sel
                    rw [List.length_map]
                    have h1 := List.length_filter_le (fun p : PlanS × V => decide (p.1.key = key)) ((pl.zip rs).take j)
                    rw [List.length_take] at h1
                    omega
                  · rw [upd_same, sel_succ he hw9, if_pos ek]
                · refine itFb (decide_eq_false fun h => ek (V.int.inj h)) ⟨sx, ?_⟩
                  rw [sel_succ he hw9, if_neg ek, List.append_nil]
                  exact gD
              · rintro Gx ⟨sx, gD⟩
                have gD' : Gx D = some (.lst (sel pl rs key N)) := by
                  have e : (((es.length : Nat) : Int) - 0).toNat = N := by rw [lN, hN]; omega
                  rw [← e]
                  exact gD
                exact ⟨ml, D, ms, _, rfl, rfl, sx _ _ hmi, gD', pr_mapH (fun v w ⟨z, o, m1, m2, m3⟩ => (m2.same sx).pair gw.1 lwl wok m1 (m3.same sx)) pr, _, rfl, q _ _ ⟨sx, rfl⟩⟩
            rintro G20 ⟨s20, _⟩
            have gk := gO N (Nat.le_refl _)
            have gS := (gk key).1
            have hat : setSt (fun _ => none) key (S N key) key = S N key := setSt_at
            refine sq_asg3 (fun x y z G21 => ∃ u lo, y = .ref u ∧ z = .ref lo ∧ Same G20 G21 ∧ RowK G21 x ws (S N key) ∧ G21 u = some (.tup ((holdD (S N key)).map V.int)) ∧ G21 lo = some (.lst [])) (fun Q q => ?_) ?_
            · refine ⟨_, rfl, _, rfl, ps, ds, hs, b, ws, N, _, key, rfl, Ci.same s20, by omega, by rw [hat]; exact fun row fs e => (gS row fs e).1, ?_⟩
              rw [hat]
              intro t x u lo ks' G21 s21 ht hx hu hlo ho
              have e0 : ks' = [] := List.eq_nil_iff_forall_not_mem.mpr fun k hk => by
                obtain ⟨n1, n2⟩ := (ho.2.2 k).mp hk
                unfold setSt at n2
                rw [if_neg n1] at n2
                cases n2
              rw [e0] at hlo
              exact q t _ _ _ _ ht ⟨u, lo, rfl, rfl, s21, hx, hu, hlo⟩
            rintro x _ _ G21 ⟨u, lo, rfl, rfl, s21, hx, hu, hlo⟩
            have s1021 := s10i.trans (s20.trans s21)
            have C21 := C10.same s1021
            refine sq_if1 (fun bb Gx => Same G21 Gx ∧ bb = false) (fun Q q => ?_) (fun _ h => by cases h.2) ?_
            · refine ⟨_, rfl, (by show 0 ≤ sizeLine; decide), fun e ne => ?_⟩
              have se := Lw.Same.new (o := .lst []) (Same.refl G21) ne
              refine ⟨.list [], .list [], .lst (SqL.of (se _ _ hlo)) .nil, .lst (SqL.of upd_same) .nil, by decide +kernel, by decide +kernel, _, rfl, it_bf (by decide +kernel) ?_⟩
              generalize upd G21 e (.lst []) = G22 at se ⊢
              have C22 := C21.same se
              have g22 := se _ _ (s1021 _ _ g1)
              refine ⟨_, rfl, _, rfl, pw, dx, _, rfl, g22, pw, dw, hw, b, ws, N, S N, key, rfl, C22, _, rfl, _, rfl, ?_⟩
              have last : ∀ (G23 : Hp), Same G22 G23 → ∀ R : Bool → Hp → Prop, (∀ G24, Same G23 G24 → R false G24) → (tTest (tOp (rNeD K) (tMeth CY "holders" (spHolders CY CH) [] E0 (tVar 8) (tCons (tVar 11) tNil)) (tVar 19))) [some (.ref a), some (.ref p), some (.ref wl), some (.ref g), some (.int low), some (.ref kl), v6, some (.ref l), some (.ref pw), some (.ref rl), v10, some (.int key), v12, v13, v14, some (.ref ps), some (.ref ml), v17, some x, some (.ref u), some (.ref lo), none, none, none] G23 R := fun G23 s23 R kR => by
                refine ⟨_, rfl, pw, dx, _, rfl, s23 _ _ g22, rfl, _, rfl, pw, dw, hw, b, ws, N, S N, key, rfl, C22.same s23, fun u2 G24 s24 hu2 => ⟨_, rfl, .tuple ((holdD (S N key)).map PyData.int), .tuple ((holdD (S N key)).map PyData.int), dp_intsT hu2, dp_intsT (s24 _ _ (s23 _ _ (se _ _ hu))), shaped_intsT _, shaped_intsT _, _, rfl, ?_⟩⟩
                rw [eqv_intsT]
                exact kR _ s24
              cases hs : S N key with
              | none =>
                refine itFb rfl ⟨_, rfl, .non, x, rfl, rowK_eq gw.1 lwl wok gS (.inl ⟨hs, rfl⟩) (hx.same43 se), fun G23 s23 => ⟨true, rfl, it_bf rfl ?_⟩⟩
                exact last G23 s23 _ fun G24 s24 => q _ _ ⟨se.trans (s23.trans s24), rfl⟩
              | some o =>
                obtain ⟨row, fs⟩ := o
                refine itTb rfl ⟨_, rfl, _, rfl, pw, dx, _, rfl, g22, pw, dw, hw, b, ws, N, S N, key, row, fs, rfl, C22, hs, (gS row fs hs).1, fun e2 ne2 => ?_⟩
                have s2 := Lw.Same.new (o := .dK (cellsK ws row)) (Same.refl G22) ne2
                refine ⟨_, rfl, .ref e2, x, rfl, rowK_eq gw.1 lwl wok gS (.inr ⟨e2, row, fs, hs, rfl, upd_same⟩) ((hx.same43 se).same43 s2), fun G23 s23 => ⟨true, rfl, it_bf rfl ?_⟩⟩
                exact last G23 (s2.trans s23) _ fun G24 s24 => q _ _ ⟨se.trans ((s2.trans s23).trans s24), rfl⟩
            rintro G25 ⟨s25, _⟩
            have s1025 := s1021.trans s25
            have C25 := C10.same s1025
            have hk25 := s1025 _ _ (sr _ _ hk9)
            have g25 := s1025 _ _ g1
            refine s1_if (fun bb Gx => Same G25 Gx ∧ bb = false) (fun Q q => ?_) (fun _ h => by cases h.2) (fun Gx h => ⟨_, _, _, _, _, _, _, _, _, _, _, rfl, s1025.trans h.1⟩)
            refine ⟨_, rfl, _, rfl, pw, dw, hw, b, ws, N, S N, key, rfl, C25, by omega, fun row fs e => (gS row fs e).1, fun t x2 u2 l2 ks2 G26 s26 ht hx2 hu2 hl2 ho => ⟨t, _, 2, _, rfl, rfl, SqT.of ht, rfl, ?_⟩⟩
            refine ⟨_, rfl, kl, ks, rfl, SqL.of (s26 _ _ hk25), fun zs r pm so nr => ⟨r, rfl, ⟨_, SqL.of upd_same⟩, fun D nD => ?_⟩⟩
            have sz := Lw.Same.new (o := .lst (zs.map V.int)) (Same.refl G26) nr
            have gz : (upd G26 r (.lst (zs.map V.int))) r = some (.lst (zs.map V.int)) := upd_same
            generalize upd G26 r (.lst (zs.map V.int)) = G27 at sz gz nD ⊢
            have lzs : zs.length ≤ 20 := by rw [pm.length_eq]; omega
            refine lc_list (xs := zs.map V.int) (fun i Gx => Same G27 Gx ∧ Gx D = some (.lst (((zs.take i).filter fun o => decide (o ≠ key) && (S N o).isSome).map V.int))) ⟨Lw.Same.new (Same.refl G27) nD, upd_same⟩ (fun i Gx _ h => SqL.of (h.1 _ _ gz)) ?_ ?_
            · rintro i y Gx hy ⟨sx, gD⟩
              rw [List.getElem?_map] at hy
              obtain ⟨o, ho2, rfl⟩ := Option.map_eq_some_iff.mp hy
              have sA := s26.trans (sz.trans sx)
              have et : (zs.take (i + 1)).filter (fun o => decide (o ≠ key) && (S N o).isSome) = (zs.take i).filter (fun o => decide (o ≠ key) && (S N o).isSome) ++ [o].filter (fun o => decide (o ≠ key) && (S N o).isSome) := by rw [take_one ho2, List.filter_append]
              refine ⟨rfl, _, rfl, _, rfl, rfl, _, rfl, ?_⟩
              by_cases ek : o = key
              · refine itFb (by rw [decide_eq_true (by rw [ek])]; rfl) ?_
                refine itFb rfl ⟨sx, ?_⟩
                rw [et, gD]
                simp [ek]
              · refine itTb (by rw [decide_eq_false fun z => ek (V.int.inj z)]; rfl) ⟨_, rfl, _, rfl, pw, dx, _, rfl, sA _ _ g25, pw, dw, hw, b, ws, N, S N, o, rfl, C25.same sA, _, rfl, _, rfl, ?_⟩
                cases hs : (S N o).isSome with
                | false =>
                  refine itFb rfl ⟨sx, ?_⟩
                  rw [et, gD]
                  simp [hs]
                | true =>
                  refine itTb rfl ⟨_, rfl, _, gD, ?_, same_at nD sx, ?_⟩
                  · rw [List.length_map]
                    have h1 := List.length_filter_le (fun o => decide (o ≠ key) && (S N o).isSome) (zs.take i)
                    rw [List.length_take] at h1
                    omega
                  · rw [upd_same, et, List.map_append]
                    simp [ek, hs]
            · rintro Gx ⟨sx, gD⟩
              rw [List.length_map, List.take_length] at gD
              have ndz : zs.Nodup := pm.nodup_iff.mpr ndk
              have e2 : zs.filter (fun o => decide (o ≠ key) && (S N o).isSome) = ks2 := ints_one (so.filter _) ho.1 ((List.perm_ext_iff_of_nodup (ndz.filter _) ho.2.1).mpr fun k => by
                rw [List.mem_filter, ho.2.2 k, pm.mem_iff, Bool.and_eq_true, decide_eq_true_eq]
                exact ⟨fun h => h.2, fun h => ⟨kin k h.2, h⟩⟩)
              rw [e2] at gD
              refine ⟨.list (ks2.map PyData.int), .list (ks2.map PyData.int), .lst (SqL.of (sx _ _ (sz _ _ hl2))) (dp_ints _), .lst (SqL.of gD) (dp_ints _), shaped_ints _, shaped_ints _, _, rfl, ?_⟩
              rw [eqv_ints]
              exact q _ _ ⟨s26.trans (sz.trans sx), rfl⟩
        · rintro σ G ⟨v10, v11, v12, v13, v14, v15, v16, v17, v18, v19, v20, rfl, sG10⟩
          exact k G
end
end Lw

set_option Elab.async false
set_option linter.all false
set_option maxRecDepth 100000
set_option maxHeartbeats 0
namespace Hb
open PySem PySem.Spec PyProof.Rows L2
/-! a Hook: facts, defs wherever they stand, one Bool more; the table of modules is seen too -/
abbrev Al : Type := He.AlD × Bool
def asB (g : Addr → Option Obj) (n : Nat) : List Addr := He5.asA g n ++ [sysModules]
def obG (n : Nat) (fa : List He.Fa) (fn : List He5.DefA) (own : PySem.W.Frag → Bool) (g : Addr → Option Obj) : Al := (He5.obsA fa fn (He.frG g (asB g n)), own (He.frG g (asB g n)))
def Says (fa : List He.Fa) (fn : List He5.DefA) (own : PySem.W.Frag → Bool) (K : PySem.W.Frag) : Prop := He5.SaysA fa fn K ∧ own K = true
def hook (n : Nat) (fa : List He.Fa) (fn : List He5.DefA) (own : PySem.W.Frag → Bool) : PySem.W.Hook where
  α := Al
  obs := fun s => obG n fa fn own s.heap.get?
  val := fun _ => (He5.valA fn, true)
  says := fun _ h => ∃ K : PySem.W.Frag, K.In h ∧ Says fa fn own K
  of := fun _ _ e => ⟨_, He.frG_in, congrArg Prod.fst e, congrArg Prod.snd e⟩
  keeps := fun _ _ _ ⟨K, hK, c⟩ k => ⟨K, PySem.W.Frag.In.keeps hK k, c⟩
theorem obG_eq {n : Nat} {fa : List He.Fa} {fn : List He5.DefA} {own : PySem.W.Frag → Bool} {g : Addr → Option Obj} {s : Shared} (h : ∀ a, g a = s.heap.get? a) : obG n fa fn own g = (hook n fa fn own).obs s := by
  rw [show g = s.heap.get? from funext h] <;> rfl
theorem Says.fact {fa : List He.Fa} {fn : List He5.DefA} {own : PySem.W.Frag → Bool} {K : PySem.W.Frag} (c : Says fa fn own K) {f : He.Fa} (hf : f ∈ fa) : f.ok K = true := by
  obtain ⟨i, hi⟩ := List.getElem?_of_mem hf
  exact c.1.fact i hi
/-- a class's constants -/
def cvS (K : PySem.W.Frag) (C : Addr) (f z : Str) : Bool := match PySem.W.findCls K (.ref C) (.type "type") f with
  | some (.val (.str y _)) => decide (y = z)
  | _ => false
def cvI (K : PySem.W.Frag) (C : Addr) (f : Str) (i : Int) : Bool := match PySem.W.findCls K (.ref C) (.type "type") f with
  | some (.val (.int y _)) => decide (y = i)
  | _ => false
theorem cvS_ok {K : PySem.W.Frag} {C : Addr} {f z : Str} (h : cvS K C f z = true) : ∃ u, ClX.CVal K C (.type "type") f (.str z) u := by
  unfold cvS at h
  split at h
  · rename_i y t e
    exact ⟨_, e, t, by rw [of_decide_eq_true h]⟩
  · cases h
theorem cvI_ok {K : PySem.W.Frag} {C : Addr} {f : Str} {i : Int} (h : cvI K C f i = true) : ∃ u, ClX.CVal K C (.type "type") f (.int i) u := by
  unfold cvI at h
  split at h
  · rename_i y t e
    exact ⟨_, e, t, by rw [of_decide_eq_true h]⟩
  · cases h
def crB (K : PySem.W.Frag) (C : Addr) : Bool := PySem.W.readsIn K C (.type "type") && He.eqO (PySem.W.specialIn K (.ref C) "__getattribute__") (some (some (.builtin "type.__getattribute__")))
theorem crB_ok {K : PySem.W.Frag} {C : Addr} (h : crB K C = true) : ClX.CRead K C (.type "type") := ⟨(He.ba h).1, He.eqO_ok (He.ba h).2⟩
def sysB (K : PySem.W.Frag) : Bool := match K.lookup sysModules with
  | some o => decide (o.cls = .type "dict")
  | none => false
theorem sysB_ok {K : PySem.W.Frag} (h : sysB K = true) : Lg.SysIn K := by
  unfold sysB at h
  split at h
  · rename_i o e
    exact ⟨o, e, of_decide_eq_true h⟩
  · cases h
end Hb

set_option Elab.async false
set_option linter.all false
set_option maxRecDepth 100000
set_option maxHeartbeats 0
namespace Hd2
open PySem PySem.Spec PyProof.Rows L2
/-! a Hook: facts, defs wherever they stand, written dicts, one Bool more; the table of modules is seen -/
abbrev Tb : Type := List (Option (List (Option (PySem.Str × Int))))
abbrev Al : Type := He.AlD × (Tb × Bool)
def tbs (ts : List He.Tab) (K : PySem.W.Frag) : Tb := ts.map fun t => He.dicW K (t.1 K)
def tbv (ts : List He.Tab) (w : World) : Tb := ts.map fun t => some (He.keysIn w.params t.2)
def obG (n : Nat) (fa : List He.Fa) (fn : List He5.DefA) (ts : List He.Tab) (own : PySem.W.Frag → Bool) (g : Addr → Option Obj) : Al :=
  (He5.obsA fa fn (He.frG g (Hb.asB g n)), (tbs ts (He.frG g (Hb.asB g n)), own (He.frG g (Hb.asB g n))))
def Says (fa : List He.Fa) (fn : List He5.DefA) (ts : List He.Tab) (own : PySem.W.Frag → Bool) (w : World) (K : PySem.W.Frag) : Prop := He5.SaysA fa fn K ∧ (tbs ts K = tbv ts w ∧ own K = true)
theorem says_of {n : Nat} {fa : List He.Fa} {fn : List He5.DefA} {ts : List He.Tab} {own : PySem.W.Frag → Bool} {w : World} {g : Addr → Option Obj} (e : obG n fa fn ts own g = (He5.valA fn, (tbv ts w, true))) : Says fa fn ts own w (He.frG g (Hb.asB g n)) :=
  ⟨congrArg Prod.fst e, congrArg Prod.fst (congrArg Prod.snd e), congrArg Prod.snd (congrArg Prod.snd e)⟩
def hook (n : Nat) (fa : List He.Fa) (fn : List He5.DefA) (ts : List He.Tab) (own : PySem.W.Frag → Bool) : PySem.W.Hook where
  α := Al
  obs := fun s => obG n fa fn ts own s.heap.get?
  val := fun w => (He5.valA fn, (tbv ts w, true))
  says := fun w h => ∃ K : PySem.W.Frag, K.In h ∧ Says fa fn ts own w K
  of := fun _ _ e => ⟨_, He.frG_in, says_of e⟩
  keeps := fun _ _ _ ⟨K, hK, c⟩ k => ⟨K, PySem.W.Frag.In.keeps hK k, c⟩
theorem obG_eq {n : Nat} {fa : List He.Fa} {fn : List He5.DefA} {ts : List He.Tab} {own : PySem.W.Frag → Bool} {g : Addr → Option Obj} {s : Shared} (h : ∀ a, g a = s.heap.get? a) : obG n fa fn ts own g = (hook n fa fn ts own).obs s := by
  rw [show g = s.heap.get? from funext h] <;> rfl
section
variable {fa : List He.Fa} {fn : List He5.DefA} {ts : List He.Tab} {own : PySem.W.Frag → Bool} {w : World} {K : PySem.W.Frag}
theorem Says.fact (c : Says fa fn ts own w K) {f : He.Fa} (hf : f ∈ fa) : f.ok K = true := by
  obtain ⟨i, hi⟩ := List.getElem?_of_mem hf
  exact c.1.fact i hi
theorem Says.tab (c : Says fa fn ts own w K) (i : Nat) {t : He.Tab} (h : ts[i]? = some t := by rfl) : ∃ es n, KDict K w (t.1 K) es n := by
  have e := congrArg (fun l : Tb => l[i]?) c.2.1
  simp only [tbs, tbv, List.getElem?_map, h] at e
  exact He.dicW_ok (Option.some.inj e)
end
end Hd2

set_option Elab.async false
set_option linter.all false
set_option maxRecDepth 100000
set_option maxHeartbeats 1000000
namespace Hd2
open PySem PySem.Spec PyProof.Rows L2
/-! the keys of a written dict, in their order -/
theorem dic_ky {K : PySem.W.Frag} {w : World} {a : Addr} {ks : List PySem.Str} (h : He.dicW K a = some (He.keysIn w.params ks)) : Kd.KyD K w a ks := by
  obtain ⟨es, n, D⟩ := He.dicW_ok h
  refine ⟨es, n, D, ?_⟩
  unfold He.dicW at h
  rw [D.at_] at h
  simp only [D.low] at h
  have e : es.toList.map He.keyOf = He.keysIn w.params ks := Option.some.inj h
  have ln : es.size = ks.length := by
    have z := congrArg List.length e
    unfold He.keysIn at z
    rw [List.length_map, List.length_map, Array.length_toList] at z
    exact z
  refine ⟨ln, fun i d hd => ?_⟩
  have hi : i < ks.length := by
    rw [← ln]
    exact (Array.getElem?_eq_some_iff.mp hd).1
  have z := congrArg (fun l : List (Option (PySem.Str × Int)) => l[i]?) e
  unfold He.keysIn at z
  simp only [List.getElem?_map, Array.getElem?_toList, hd, List.getElem?_eq_getElem hi, Option.map_some] at z
  have z2 := Option.some.inj z
  refine ⟨ks[i], ?_⟩
  unfold He.keyOf at z2
  split at z2
  · rename_i x t hk
    have e4 : x = ks[i] := congrArg Prod.fst (Option.some.inj z2)
    exact ⟨t, List.getElem?_eq_getElem hi, by rw [hk, e4]⟩
  · cases z2
theorem Says.ky {fa : List He.Fa} {fn : List He5.DefA} {ts : List He.Tab} {own : PySem.W.Frag → Bool} {w : World} {K : PySem.W.Frag} (c : Says fa fn ts own w K) (i : Nat) {t : He.Tab} (h : ts[i]? = some t := by rfl) : Kd.KyD K w (t.1 K) t.2 := by
  have e := congrArg (fun l : Tb => l[i]?) c.2.1
  simp only [tbs, tbv, List.getElem?_map, h] at e
  exact dic_ky (Option.some.inj e)
end Hd2

set_option Elab.async false
set_option linter.all false
set_option maxRecDepth 100000
set_option maxHeartbeats 0
namespace Hx
open PySem PySem.Spec PyProof.Rows L2
/-! an own error class with an own __init__, over any base: what the head looks up -/
def oexB (K : PySem.W.Frag) (C : Addr) (tl : List Value) (nw : String) : Bool := match K.lookup C with
  | some ⟨.type t, _, .cls ⟨_, _, .ref c :: bm, _, _, true, _, _, _, _, false⟩, sl⟩ => (decide (t = "type") && (decide (c = C) && PySem.Ge.tailB tl bm)) && (match sl.toList with
    | [_, _, _, _, some (.builtin z), _] => decide (z = nw)
    | _ => false)
  | _ => false
def clsB (K : PySem.W.Frag) (C : Addr) (tl : List Value) (nw : String) : Bool := oexB K C tl nw && (He.eqO (PySem.W.findIn K (.ref C) "__setattr__") (some (some (.builtin "object.__setattr__"))) && (decide (PySem.W.subIn K (.ref C) (.type "BaseException") = some true) &&
  (decide (PySem.W.typeIn K (.ref C) = some (.type "type")) && PySem.W.keepIn K (.ref C))))
theorem oexB_ok {K : PySem.W.Frag} {C : Addr} {tl : List Value} {nw : String} (T : PySem.Ge.Tl tl) (h : clsB K C tl nw = true) : Ge.OexT K C tl nw := by
  obtain ⟨h1, h⟩ := He.ba h
  obtain ⟨h2, h⟩ := He.ba h
  obtain ⟨h3, h⟩ := He.ba h
  obtain ⟨h4, h5⟩ := He.ba h
  refine ⟨T, ?_, He.eqO_ok h2, of_decide_eq_true h3, of_decide_eq_true h4, h5⟩
  unfold oexB at h1
  split at h1
  · rename_i t dd nm bs c bm N qn sn sub ab col sl e
    obtain ⟨q1, q2⟩ := He.ba h1
    obtain ⟨q3, q4⟩ := He.ba q1
    obtain ⟨q5, q6⟩ := He.ba q4
    have e1 := of_decide_eq_true q3
    have e2 := of_decide_eq_true q5
    subst e1 e2
    split at q2
    · rename_i k0 k1 k2 k3 z k5 es
      have e3 := of_decide_eq_true q2
      subst e3
      obtain ⟨sl⟩ := sl
      simp only at es
      subst es
      exact ⟨nm, qn, N, bs, bm, sn, sub, ab, col, dd, k0, k1, k2, k3, k5, e, q6⟩
    · cases q2
  · cases h1
end Hx

set_option Elab.async false
set_option linter.all false
set_option maxRecDepth 100000
set_option maxHeartbeats 0
namespace Lw
open PySem PySem.Spec PyProof.Rows L2
def fn0 : List He5.DefA := [dM "Put" "__init__" "Put.__init__" sPutI, dM "Change" "__init__" "Change.__init__" sChgI, dM "Take" "__init__" "Take.__init__" sTakeI, dP "Put" "cells" "Put.cells" sPutC, dP "Change" "cells" "Change.cells" sChgC, dP "Take" "cells" "Take.cells" sTakeC, dG "_law_draw" sDraw, dG "_law_source" sSource, dG "_law_pick" sPick, dG "_law_word" sWord, dG "_law_words" sWords, dG "_law_number" sNumber]
def fn1 : List He5.DefA := [dG "_law_message" sMessage, dG "_law_cells" sCells, dG "_law_plan" sPlan, dG "_law_is_integer" sIsInteger, dG "_law_is_row" sIsRow, dG "row_of" sRowOf, dG "cells_of" sCellsOf, dG "_way" sWay, dG "_written" sWritten, dG "_joined" sJoinC, dG "_taken" sTakenC, dG "copied" sCopied]
def fn2 : List He5.DefA := [dM "Refused" "__init__" "Refused.__init__" sRefI, dG "applied" sApplied, dM "Habits" "__init__" "Habits.__init__" sHabI [("present", .str "stop"), ("lacking", .str "stop"), ("gone", .str "stop"), ("shared", .str "one")], dM "Copy" "apply" "Copy.apply" sApply [("feed", .int 0)], dM "Copy" "__init__" "Copy.__init__" sCopyI, dM "Copy" "holders" "Copy.holders" sHolders, dM "Copy" "__getitem__" "Copy.__getitem__" sGetI, dM "Copy" "__contains__" "Copy.__contains__" sConC, dM "Copy" "__iter__" "Copy.__iter__" sIterC, dM "Copy" "__len__" "Copy.__len__" sLenC, dG "_law_tried" sTried, dG "_law_values" sValues]
def fn3 : List He5.DefA := [dG "_law_names_of_habits" sNamesH, dG "_law_made" sMade, dG "_law_place" sPlace, dG "_law_rows" sRows43, dG "law" sLaw]
def fn : List He5.DefA := fn0 ++ (fn1 ++ (fn2 ++ (fn3)))
def glos0 : List Str := ["Message", "Put", "Change", "Take", "Copy", "Habits", "VALUES", "Refused", "_law_draw", "_law_source", "_law_pick", "_law_word"]
def glos1 : List Str := ["_law_words", "_law_number", "_law_message", "_law_cells", "_law_plan", "_law_is_integer", "_law_is_row", "row_of", "cells_of", "_way", "_written", "_joined"]
def glos2 : List Str := ["_taken", "copied", "applied", "_law_tried", "_law_values", "_law_names_of_habits", "_law_made", "_law_place", "_law_rows", "law"]
def glos : List Str := glos0 ++ (glos1 ++ (glos2))
def frees0 : List Str := ["len", "abs", "int", "range", "sum", "isinstance", "bool", "str", "list", "tuple", "dict", "all"]
def frees1 : List Str := ["sorted", "set", "zip", "max", "min", "enumerate", "iter", "RuntimeError", "ValueError", "LookupError"]
def frees : List Str := frees0 ++ (frees1)
def fas0 : List He.Fa := [.cls "Put", .noat "Put" "key", .noat "Put" "_cells", .mkr "Put", .cls "Change", .noat "Change" "key", .noat "Change" "_cells", .mkr "Change", .cls "Take", .noat "Take" "key", .mkr "Take", .cls "Copy"]
def fas1 : List He.Fa := [.mkr "Copy", .cls "Habits", .mkr "Habits", .noat "Copy" "columns", .noat "Copy" "habits", .noat "Copy" "_held", .noat "Copy" "_keys", .noat "Habits" "present", .noat "Habits" "lacking", .noat "Habits" "gone", .noat "Habits" "shared", .exm "Refused" "Refused" true]
def fas2 : List He.Fa := [.meth "Refused" "__init__", .meth "Copy" "holders", .meth "Copy" "__getitem__", .meth "Copy" "__contains__", .meth "Copy" "__iter__", .meth "Copy" "__len__", .meth "Copy" "apply"]
def fas : List He.Fa := fas0 ++ (fas1 ++ (fas2))
def fa : List He.Fa := glos.map He.Fa.glo ++ (frees.map He.Fa.free ++ fas)
def tabs : List He.Tab := [(fun K => He.ga K "VALUES", habNames)]
def kitB (K : PySem.W.Frag) (C : Str) (bP bC bT : Bool) : Bool := decide (PySem.W.kitOne K (.ref (He.ga K C)) (.ref (He.ga K "Message")) = some true) && (decide (PySem.W.kitOne K (.ref (He.ga K C)) (.ref (He.ga K "Put")) = some bP) && (decide (PySem.W.kitOne K (.ref (He.ga K C)) (.ref (He.ga K "Change")) = some bC) &&
  (decide (PySem.W.kitOne K (.ref (He.ga K C)) (.ref (He.ga K "Take")) = some bT) && Hk.insB K (He.ga K C))))
def ownC (K : PySem.W.Frag) (C z : Str) (bP bC bT : Bool) : Bool := kitB K C bP bC bT && (conB K (He.ga K C) "deed" z && (propB K (He.ga K C) "cells" && (Hc.crB K (He.ga K C) && Hc.cvS K (He.ga K C) "deed" z)))
def hvB (K : PySem.W.Frag) (q : Str × List Str) : Bool := match PySem.W.nsIn K (He.ga K "VALUES") q.1 with
  | some (some (.ref t)) => tupB K t (q.2.map V.str)
  | _ => false
def plS : List String := ["NoneType", "int", "bool", "str", "tuple", "list", "dict"]
def cls3 : List Str := ["Put", "Change", "Take"]
def ownE (K : PySem.W.Frag) (C : Str) : Bool := He.eqO (PySem.W.findIn K (.ref (He.ga K C)) "__ne__") (some (some (.builtin "object.__ne__"))) && (plS.all (fun t => PySem.W.notFirst K (He.ga K C) (.type t)) && plS.all (fun t => decide (PySem.W.kitOne K (.type t) (.ref (He.ga K C)) = some false)))
def two3 (K : PySem.W.Frag) : Bool := cls3.all fun c => cls3.all fun d => PySem.W.notFirst K (He.ga K c) (.ref (He.ga K d)) && (decide (c = d) || decide (PySem.W.kitOne K (.ref (He.ga K d)) (.ref (He.ga K c)) = some false))
def kits : List String := ["list", "tuple", "dict"]
def kit3 (K : PySem.W.Frag) : Bool := cls3.all fun c => kits.all fun t => decide (PySem.W.kitOne K (.ref (He.ga K c)) (.type t) = some false)
def refB (K : PySem.W.Frag) (C : Addr) : Bool := He.eqO (PySem.W.findIn K (.ref C) "message") (some none) && (He.eqO (PySem.W.findIn K (.ref C) "row") (some none) && (decide (PySem.W.kitOne K (.ref C) (.type "RuntimeError") = some true) && (decide (PySem.W.kitOne K (.ref C) (.type "ValueError") = some false) && decide (PySem.W.kitOne K (.ref C) (.type "LookupError") = some false))))
def own (K : PySem.W.Frag) : Bool := ownC K "Put" "put" true false false && (ownC K "Change" "change" false true false && (ownC K "Take" "take" false false true && (habVals.all (hvB K) && (PySem.W.fnIn K (He.ma K (He.ga K "Copy") "__getitem__") && (kit3 K && (Hx.clsB K (He.ga K "Refused") Ge.rtTail "RuntimeError.__new__" && (refB K (He.ga K "Refused") && (Hk.excB K (He.ga K "Refused")))))))))
abbrev R : PySem.W.OpenRow := PySem.W.OpenLaw.row PySem.Challenge.rw_filteredcopies_k43_whole_keys_apart
abbrev qv : Program := PySem.W.view R.prog [43]
def names0 : List Str := ["_wall", "copied", "CopiesError", "BadHabit", "NoRow", "Refused", "Message", "Put", "Change", "Take", "VALUES", "Habits", "applied", "row_of"]
def names1 : List Str := ["cells_of", "_way", "_written", "_joined", "_taken", "Copy", "_law_source", "_law_draw", "_law_pick", "_law_word", "_law_words", "_law_number", "_law_is_integer", "_law_is_row"]
def names2 : List Str := ["_law_values", "_law_names_of_habits", "_law_made", "_law_message", "_law_cells", "_law_tried", "_law_is_tried", "_law_plan", "_law_place", "_law_rows"]
def names : List Str := names0 ++ (names1 ++ (names2))
abbrev hk : PySem.W.Hook := Hd2.hook 6 fa fn tabs own
def ob (s : PySem.W.SharedT) : Hd2.Al := Hd2.obG 6 fa fn tabs own (HandSHeadRun.getT s)
theorem ob_eq (s : PySem.W.SharedT) : ob s = hk.obs s.abs := Hd2.obG_eq (HandSHeadRun.getT_eq s)
theorem run1 (w : World) : HandSHeadRun.RunEq R qv hk ob 9000 names (w.withFollow "special-get-raises" false) := by intro os; kernel_rfl
theorem run2 (w : World) : HandSHeadRun.RunEq R qv hk ob 9000 names (w.withFollow "special-get-raises" true) := by intro os; kernel_rfl
theorem run (w : World) : HandSHeadRun.RunEq R qv hk ob 9000 names w :=
  PySem.W.byRow2 "special-get-raises" (P := fun w => HandSHeadRun.RunEq R qv hk ob 9000 names w) run1 run2 w
end Lw

set_option Elab.async false
set_option linter.all false
set_option maxRecDepth 100000
set_option maxHeartbeats 4000000
namespace Lw
open PySem PySem.Spec PyProof.Rows L2 Lg
section
variable {K : PySem.W.Frag} {h : Heap} {mg : Str → Option Value} {w : World}
theorem f_glo (X : K.In h) (G : h.Ns mainGlobals mg) (c : Hd2.Says fa fn tabs own w K) {x : Str} (hx : x ∈ glos) : mg x = some (.ref (He.ga K x)) :=
  He.glo_ok X G (c.fact (f := .glo x) (List.mem_append_left _ (List.mem_map_of_mem hx)))
theorem f_free (X : K.In h) (G : h.Ns mainGlobals mg) (c : Hd2.Says fa fn tabs own w K) {x : Str} (hx : x ∈ frees) : mg x = none :=
  He.free_ok X G (c.fact (f := .free x) (List.mem_append_right _ (List.mem_append_left _ (List.mem_map_of_mem hx))))
theorem f_one (c : Hd2.Says fa fn tabs own w K) {f : He.Fa} (hf : f ∈ fas) : f.ok K = true := c.fact (List.mem_append_right _ (List.mem_append_right _ hf))
theorem f_hv {dV : Addr} (D : ∃ es n, KDict K w dV es n) (hd : dV = He.ga K "VALUES") (h : habVals.all (hvB K) = true) : ∀ q ∈ habVals, ∃ a, KDct K w dV q.1 (.ref a) ∧ ∀ H, SqT K H a (q.2.map V.str) := fun q hq => by
  have z := List.all_eq_true.mp h q hq
  subst hd
  unfold hvB at z
  split at z
  · rename_i t e
    obtain ⟨es, n, D⟩ := D
    exact ⟨t, ⟨es, n, _, D.at_, D.lit, e, rfl⟩, fun H => tupB_ok z⟩
  · cases z
theorem cls_z {K : PySem.W.Frag} {CP CC CT CM C : Addr} {z : Str} {bP bC bT : Bool} (e : clsOf CP CC CT z = C) (T : TxtC1 K C) (con : ∃ u, Con K C "deed" (.str z) u) (kM : PySem.W.kitOne K (.ref C) (.ref CM) = some true) (kP : PySem.W.kitOne K (.ref C) (.ref CP) = some bP) (kC : PySem.W.kitOne K (.ref C) (.ref CC) = some bC) (kT : PySem.W.kitOne K (.ref C) (.ref CT) = some bT)
    (eP : bP = decide (z = "put")) (eC : bC = decide (z = "change")) (eT : bT = decide (z = "take")) : ClsZ K CP CC CT CM z := by
  subst e eP eC eT
  exact ⟨T, con, kM, kP, kC, kT⟩
end
theorem facts {P : Program} {w : World} {K : PySem.W.Frag} {h : Heap} {mg : Str → Option Value} {f : Addr} (X : K.In h) (G : h.Ns mainGlobals mg) (hfa : mg ("law" : Str) = some (.ref f)) (c : Hd2.Says fa fn tabs own w K) :
    ∃ fd : FuncData, (∀ (s : Shared) (v : Value), BindsTo s fd ⟨[v], []⟩ [("script", v)]) ∧ ∀ base : Heap, K.In base → base.Ns mainGlobals mg → FnOk P w K mg base CX0 8 f fd ["script"] (spLaw K) := by
  have gl : ∀ {x : Str}, x ∈ glos → mg x = some (.ref (He.ga K x)) := fun hx => f_glo X G c hx
  have fr : ∀ {x : Str}, x ∈ frees → mg x = none := fun hx => f_free X G c hx
  have fc : ∀ {f : He.Fa}, f ∈ fas → f.ok K = true := fun hf => f_one c hf
  have oo := c.2.2
  obtain ⟨oP, oo⟩ := He.ba oo
  obtain ⟨oC, oo⟩ := He.ba oo
  obtain ⟨oT, oo⟩ := He.ba oo
  obtain ⟨oV, oo⟩ := He.ba oo
  obtain ⟨oG, oo⟩ := He.ba oo
  obtain ⟨oK, oo⟩ := He.ba oo
  obtain ⟨oR1, oo⟩ := He.ba oo
  obtain ⟨oR2, oo⟩ := He.ba oo
  have oR3 := oo
  obtain ⟨d0, D0⟩ := c.1.def_ 0 (d := dM "Put" "__init__" "Put.__init__" sPutI) rfl
  obtain ⟨d1, D1⟩ := c.1.def_ 1 (d := dM "Change" "__init__" "Change.__init__" sChgI) rfl
  obtain ⟨d2, D2⟩ := c.1.def_ 2 (d := dM "Take" "__init__" "Take.__init__" sTakeI) rfl
  obtain ⟨d3, D3⟩ := c.1.def_ 3 (d := dP "Put" "cells" "Put.cells" sPutC) rfl
  obtain ⟨d4, D4⟩ := c.1.def_ 4 (d := dP "Change" "cells" "Change.cells" sChgC) rfl
  obtain ⟨d5, D5⟩ := c.1.def_ 5 (d := dP "Take" "cells" "Take.cells" sTakeC) rfl
  obtain ⟨d6, D6⟩ := c.1.def_ 6 (d := dG "_law_draw" sDraw) rfl
  obtain ⟨d7, D7⟩ := c.1.def_ 7 (d := dG "_law_source" sSource) rfl
  obtain ⟨d8, D8⟩ := c.1.def_ 8 (d := dG "_law_pick" sPick) rfl
  obtain ⟨d9, D9⟩ := c.1.def_ 9 (d := dG "_law_word" sWord) rfl
  obtain ⟨d10, D10⟩ := c.1.def_ 10 (d := dG "_law_words" sWords) rfl
  obtain ⟨d11, D11⟩ := c.1.def_ 11 (d := dG "_law_number" sNumber) rfl
  obtain ⟨d12, D12⟩ := c.1.def_ 12 (d := dG "_law_message" sMessage) rfl
  obtain ⟨d13, D13⟩ := c.1.def_ 13 (d := dG "_law_cells" sCells) rfl
  obtain ⟨d14, D14⟩ := c.1.def_ 14 (d := dG "_law_plan" sPlan) rfl
  obtain ⟨d15, D15⟩ := c.1.def_ 15 (d := dG "_law_is_integer" sIsInteger) rfl
  obtain ⟨d16, D16⟩ := c.1.def_ 16 (d := dG "_law_is_row" sIsRow) rfl
  obtain ⟨d17, D17⟩ := c.1.def_ 17 (d := dG "row_of" sRowOf) rfl
  obtain ⟨d18, D18⟩ := c.1.def_ 18 (d := dG "cells_of" sCellsOf) rfl
  obtain ⟨d19, D19⟩ := c.1.def_ 19 (d := dG "_way" sWay) rfl
  obtain ⟨d20, D20⟩ := c.1.def_ 20 (d := dG "_written" sWritten) rfl
  obtain ⟨d21, D21⟩ := c.1.def_ 21 (d := dG "_joined" sJoinC) rfl
  obtain ⟨d22, D22⟩ := c.1.def_ 22 (d := dG "_taken" sTakenC) rfl
  obtain ⟨d23, D23⟩ := c.1.def_ 23 (d := dG "copied" sCopied) rfl
  obtain ⟨d24, D24⟩ := c.1.def_ 24 (d := dM "Refused" "__init__" "Refused.__init__" sRefI) rfl
  obtain ⟨d25, D25⟩ := c.1.def_ 25 (d := dG "applied" sApplied) rfl
  obtain ⟨d26, D26⟩ := c.1.def_ 26 (d := dM "Habits" "__init__" "Habits.__init__" sHabI [("present", .str "stop"), ("lacking", .str "stop"), ("gone", .str "stop"), ("shared", .str "one")]) rfl
  obtain ⟨d27, D27⟩ := c.1.def_ 27 (d := dM "Copy" "apply" "Copy.apply" sApply [("feed", .int 0)]) rfl
  obtain ⟨d28, D28⟩ := c.1.def_ 28 (d := dM "Copy" "__init__" "Copy.__init__" sCopyI) rfl
  obtain ⟨d29, D29⟩ := c.1.def_ 29 (d := dM "Copy" "holders" "Copy.holders" sHolders) rfl
  obtain ⟨d30, D30⟩ := c.1.def_ 30 (d := dM "Copy" "__getitem__" "Copy.__getitem__" sGetI) rfl
  obtain ⟨d31, D31⟩ := c.1.def_ 31 (d := dM "Copy" "__contains__" "Copy.__contains__" sConC) rfl
  obtain ⟨d32, D32⟩ := c.1.def_ 32 (d := dM "Copy" "__iter__" "Copy.__iter__" sIterC) rfl
  obtain ⟨d33, D33⟩ := c.1.def_ 33 (d := dM "Copy" "__len__" "Copy.__len__" sLenC) rfl
  obtain ⟨d34, D34⟩ := c.1.def_ 34 (d := dG "_law_tried" sTried) rfl
  obtain ⟨d35, D35⟩ := c.1.def_ 35 (d := dG "_law_values" sValues) rfl
  obtain ⟨d36, D36⟩ := c.1.def_ 36 (d := dG "_law_names_of_habits" sNamesH) rfl
  obtain ⟨d37, D37⟩ := c.1.def_ 37 (d := dG "_law_made" sMade) rfl
  obtain ⟨d38, D38⟩ := c.1.def_ 38 (d := dG "_law_place" sPlace) rfl
  obtain ⟨d39, D39⟩ := c.1.def_ 39 (d := dG "_law_rows" sRows43) rfl
  obtain ⟨d40, D40⟩ := c.1.def_ 40 (d := dG "law" sLaw) rfl
  have e := hfa.symm.trans (gl (x := "law") (by decide +kernel))
  cases e
  refine ⟨d40, fun s v => FunD.bindsA (ps := ["script"]) D40 (fun _ _ _ _ _ _ us hl => match us, hl with | [_], _ => rfl) s [v] rfl, fun base KB GB => ?_⟩
  have own1 : ∀ {C z : Str} {bP bC bT : Bool}, ownC K C z bP bC bT = true → Cls K (He.ga K C) → NoAttr K (He.ga K C) "key" →
      TxtC1 K (He.ga K C) ∧ (∃ u, Con K (He.ga K C) "deed" (.str z) u) ∧ PySem.W.kitOne K (.ref (He.ga K C)) (.ref (He.ga K "Message")) = some true ∧ PySem.W.kitOne K (.ref (He.ga K C)) (.ref (He.ga K "Put")) = some bP ∧ PySem.W.kitOne K (.ref (He.ga K C)) (.ref (He.ga K "Change")) = some bC ∧ PySem.W.kitOne K (.ref (He.ga K C)) (.ref (He.ga K "Take")) = some bT ∧
      PropOf K (He.ga K C) "cells" (He.ma K (He.ga K C) "cells") (He5.wf K (He.ga K C) "property" "cells") ∧ ClX.CRead K (He.ga K C) (.type "type") ∧ ∃ u, ClX.CVal K (He.ga K C) (.type "type") "deed" (.str z) u := fun {C z bP bC bT} h hc hn => by
    obtain ⟨a1, a⟩ := He.ba h
    obtain ⟨a2, a⟩ := He.ba a
    obtain ⟨a3, a⟩ := He.ba a
    obtain ⟨a4, a5⟩ := He.ba a
    obtain ⟨b1, b⟩ := He.ba a1
    obtain ⟨b2, b⟩ := He.ba b
    obtain ⟨b3, b⟩ := He.ba b
    obtain ⟨b4, b5⟩ := He.ba b
    obtain ⟨i1, i⟩ := He.ba b5
    obtain ⟨i2, i⟩ := He.ba i
    obtain ⟨i3, i4⟩ := He.ba i
    exact ⟨⟨hc, hn, He.eqO_ok i1, of_decide_eq_true i3, of_decide_eq_true i4, of_decide_eq_true i2⟩, conB_ok a2 (by decide +kernel), of_decide_eq_true b1, of_decide_eq_true b2, of_decide_eq_true b3, of_decide_eq_true b4, propB_ok a3, Hc.crB_ok a4, Hc.cvS_ok a5⟩
  obtain ⟨TP, conP, kPM, kPP, kPC, kPT, prP, rdP, cvP⟩ := own1 oP (He.cls_ok (fc (f := .cls "Put") (List.mem_of_getElem? (i := 0) rfl))) (He.noat_ok (fc (f := .noat "Put" "key") (List.mem_of_getElem? (i := 1) rfl)))
  obtain ⟨TC, conC, kCM, kCP, kCC, kCT, prC, rdC, cvC⟩ := own1 oC (He.cls_ok (fc (f := .cls "Change") (List.mem_of_getElem? (i := 4) rfl))) (He.noat_ok (fc (f := .noat "Change" "key") (List.mem_of_getElem? (i := 5) rfl)))
  obtain ⟨TT, conT, kTM, kTP, kTC, kTT, prT, rdT, cvT⟩ := own1 oT (He.cls_ok (fc (f := .cls "Take") (List.mem_of_getElem? (i := 8) rfl))) (He.noat_ok (fc (f := .noat "Take" "key") (List.mem_of_getElem? (i := 9) rfl)))
  have nCP : NoAttr K (He.ga K "Put") "_cells" := He.noat_ok (fc (f := .noat "Put" "_cells") (List.mem_of_getElem? (i := 2) rfl))
  have nCC : NoAttr K (He.ga K "Change") "_cells" := He.noat_ok (fc (f := .noat "Change" "_cells") (List.mem_of_getElem? (i := 6) rfl))
  have TD : TxtD mg := ⟨fr (by decide +kernel), fr (by decide +kernel), fr (by decide +kernel), fr (by decide +kernel)⟩
  have hd : mg "dict" = none := fr (by decide +kernel)
  have TH : TxtH K mg (He.ga K "Habits") (He.ga K "Put") (He.ga K "Change") := ⟨He.cls_ok (fc (f := .cls "Habits") (List.mem_of_getElem? (i := 13) rfl)), He.noat_ok (fc (f := .noat "Habits" "present") (List.mem_of_getElem? (i := 19) rfl)), He.noat_ok (fc (f := .noat "Habits" "lacking") (List.mem_of_getElem? (i := 20) rfl)), He.noat_ok (fc (f := .noat "Habits" "gone") (List.mem_of_getElem? (i := 21) rfl)), He.noat_ok (fc (f := .noat "Habits" "shared") (List.mem_of_getElem? (i := 22) rfl)), gl (by decide +kernel), gl (by decide +kernel), rdP, rdC, cvP, cvC⟩
  have TY : TxtY K (He.ga K "Copy") := ⟨He.cls_ok (fc (f := .cls "Copy") (List.mem_of_getElem? (i := 11) rfl)), He.noat_ok (fc (f := .noat "Copy" "columns") (List.mem_of_getElem? (i := 15) rfl)), He.noat_ok (fc (f := .noat "Copy" "habits") (List.mem_of_getElem? (i := 16) rfl)), He.noat_ok (fc (f := .noat "Copy" "_held") (List.mem_of_getElem? (i := 17) rfl)), He.noat_ok (fc (f := .noat "Copy" "_keys") (List.mem_of_getElem? (i := 18) rfl))⟩
  have HV : HabV K w mg (He.ga K "VALUES") := ⟨gl (by decide +kernel), c.ky 0 (t := (fun K => He.ga K "VALUES", habNames)) rfl, f_hv (c.tab 0 (t := (fun K => He.ga K "VALUES", habNames)) rfl) rfl oV⟩
  have one : ∀ z ∈ deeds, ClsZ K (He.ga K "Put") (He.ga K "Change") (He.ga K "Take") (He.ga K "Message") z := fun z hz => by
    rcases List.mem_cons.mp hz with rfl | hz
    · exact cls_z (C := (He.ga K "Put")) rfl TP conP kPM kPP kPC kPT (by decide +kernel) (by decide +kernel) (by decide +kernel)
    rcases List.mem_cons.mp hz with rfl | hz
    · exact cls_z (C := (He.ga K "Change")) rfl TC conC kCM kCP kCC kCT (by decide +kernel) (by decide +kernel) (by decide +kernel)
    rcases List.mem_cons.mp hz with rfl | hz
    · exact cls_z (C := (He.ga K "Take")) rfl TT conT kTM kTP kTC kTT (by decide +kernel) (by decide +kernel) (by decide +kernel)
    cases hz
  have MM : MsF P w K mg base (He.ga K "Put") (He.ga K "Change") (He.ga K "Take") (He.ga K "Message") := ⟨one, ⟨TP.cl, _, _, _, prP, ok_putC D3 TP nCP hd, D3.bindsN fun _ _ _ _ _ _ us hl => match us, hl with | [_], _ => rfl⟩, ⟨TC.cl, _, _, _, prC, ok_chgC D4 TC nCC hd, D4.bindsN fun _ _ _ _ _ _ us hl => match us, hl with | [_], _ => rfl⟩, ⟨TT.cl, _, _, _, prT, ok_takeC D5, D5.bindsN fun _ _ _ _ _ _ us hl => match us, hl with | [_], _ => rfl⟩, gl (by decide +kernel), gl (by decide +kernel), gl (by decide +kernel), gl (by decide +kernel)⟩
  have mP : MkS P w K mg base "Put" (He.ga K "Put") (spMI (He.ga K "Put")) ["self", "key", "cells"] := ⟨gl (by decide +kernel), _, _, He.mkr_ok (fc (f := .mkr "Put") (List.mem_of_getElem? (i := 3) rfl)), ok_putI D0 TP nCP hd, D0.bindsN fun _ _ _ _ _ _ us hl => match us, hl with | [_, _, _], _ => rfl⟩
  have mC : MkS P w K mg base "Change" (He.ga K "Change") (spMI (He.ga K "Change")) ["self", "key", "cells"] := ⟨gl (by decide +kernel), _, _, He.mkr_ok (fc (f := .mkr "Change") (List.mem_of_getElem? (i := 7) rfl)), ok_chgI D1 TC nCC hd, D1.bindsN fun _ _ _ _ _ _ us hl => match us, hl with | [_, _, _], _ => rfl⟩
  have mT : MkS P w K mg base "Take" (He.ga K "Take") (spTI (He.ga K "Take")) ["self", "key"] := ⟨gl (by decide +kernel), _, _, He.mkr_ok (fc (f := .mkr "Take") (List.mem_of_getElem? (i := 10) rfl)), ok_takeI D2 TT, D2.bindsN fun _ _ _ _ _ _ us hl => match us, hl with | [_, _], _ => rfl⟩
  have cD := cal_draw (P := P) (w := w) (base := base) TD ⟨_, _, gl (by decide +kernel), D6⟩
  have cS : Cal P w K mg base CX0 "_law_source" 1 ["script", "at"] (spSource K) := ⟨_, _, gl (by decide +kernel), D7.kp, ok_source D7 TD (fr (by decide +kernel)), D7.bindsN fun _ _ _ _ _ _ us hl => match us, hl with | [_, _], _ => rfl⟩
  have cPk : Cal P w K mg base CX0 "_law_pick" 2 ["source", "some"] (spOf K) := ⟨_, _, gl (by decide +kernel), D8.kp, ok_pick D8 TD cD, D8.bindsN fun _ _ _ _ _ _ us hl => match us, hl with | [_, _], _ => rfl⟩
  have cWd : Cal P w K mg base CX0 "_law_word" 2 ["source", "taken"] (spWord2 K) := ⟨_, _, gl (by decide +kernel), D9.kp, ok_word D9 TD cD, D9.bindsN fun _ _ _ _ _ _ us hl => match us, hl with | [_, _], _ => rfl⟩
  have cWs : Cal P w K mg base CX0 "_law_words" 3 ["source", "many", "taken"] (spWords K) := ⟨_, _, gl (by decide +kernel), D10.kp, ok_words D10 TD cWd, D10.bindsN fun _ _ _ _ _ _ us hl => match us, hl with | [_, _, _], _ => rfl⟩
  have cN : Cal P w K mg base CX0 "_law_number" 2 ["source", "limit"] (spNumL) := ⟨_, _, gl (by decide +kernel), D11.kp, ok_number D11 cD, D11.bindsN fun _ _ _ _ _ _ us hl => match us, hl with | [_, _], _ => rfl⟩
  have cM : Cal P w K mg base CX0 "_law_message" 3 ["deed", "key", "cells"] (spMsg (He.ga K "Put") (He.ga K "Change") (He.ga K "Take")) := ⟨_, _, gl (by decide +kernel), D12.kp, ok_message D12 hd mP mC mT, D12.bindsN fun _ _ _ _ _ _ us hl => match us, hl with | [_, _, _], _ => rfl⟩
  have cC : Cal P w K mg base CX0 "_law_cells" 3 ["source", "names"] (spCells) := ⟨_, _, gl (by decide +kernel), D13.kp, ok_cells D13 cD cN, D13.bindsN fun _ _ _ _ _ _ us hl => match us, hl with | [_, _], _ => rfl⟩
  have cPl : Cal P w K mg base CX0 "_law_plan" 4 ["script", "columns", "keys", "feeds", "most"] (spPlan K) := ⟨_, _, gl (by decide +kernel), D14.kp, ok_plan D14 ⟨fr (by decide +kernel), fr (by decide +kernel), fr (by decide +kernel), fr (by decide +kernel)⟩ cS cPk cC, D14.bindsN fun _ _ _ _ _ _ us hl => match us, hl with | [_, _, _, _, _], _ => rfl⟩
  have TQ : TxtQ mg := ⟨fr (by decide +kernel), fr (by decide +kernel), fr (by decide +kernel), fr (by decide +kernel), fr (by decide +kernel)⟩
  have cI : Cal P w K mg base CX0 "_law_is_integer" 1 ["value"] (spIsInteger K) := ⟨_, _, gl (by decide +kernel), D15.kp, ok_isInteger D15 TQ, D15.bindsN fun _ _ _ _ _ _ us hl => match us, hl with | [_], _ => rfl⟩
  have cR : Cal P w K mg base CX0 "_law_is_row" 2 ["told", "due"] (spIsRow) := ⟨_, _, gl (by decide +kernel), D16.kp, ok_isRow D16 ⟨TQ, fr (by decide +kernel)⟩ cI, D16.bindsN fun _ _ _ _ _ _ us hl => match us, hl with | [_, _], _ => rfl⟩
  have cRo : Cal P w K mg base CX0 "row_of" 1 ["held"] (spRowOf) := ⟨_, _, gl (by decide +kernel), D17.kp, ok_rowOf D17, D17.bindsN fun _ _ _ _ _ _ us hl => match us, hl with | [_], _ => rfl⟩
  have cCo : Cal P w K mg base CX0 "cells_of" 1 ["columns", "row"] (spCellsOf) := ⟨_, _, gl (by decide +kernel), D18.kp, ok_cellsOf D18 (fr (by decide +kernel)) hd, D18.bindsN fun _ _ _ _ _ _ us hl => match us, hl with | [_, _], _ => rfl⟩
  have cWy : Cal P w K mg base CX0 "_way" 1 ["habits", "held", "deed"] (spWay (He.ga K "Habits")) := ⟨_, _, gl (by decide +kernel), D19.kp, ok_way D19 TH, D19.bindsN fun _ _ _ _ _ _ us hl => match us, hl with | [_, _, _], _ => rfl⟩
  have cWr : Cal P w K mg base CX0 "_written" 2 ["columns", "held", "cells", "way"] (spWritten) := ⟨_, _, gl (by decide +kernel), D20.kp, ok_written D20 (fr (by decide +kernel)) (fr (by decide +kernel)) cRo, D20.bindsN fun _ _ _ _ _ _ us hl => match us, hl with | [_, _, _, _], _ => rfl⟩
  have cJo : Cal P w K mg base CX0 "_joined" 1 ["held", "feed"] (spJoinC) := ⟨_, _, gl (by decide +kernel), D21.kp, ok_joinC D21 (fr (by decide +kernel)) (fr (by decide +kernel)) (fr (by decide +kernel)), D21.bindsN fun _ _ _ _ _ _ us hl => match us, hl with | [_, _], _ => rfl⟩
  have cTk : Cal P w K mg base CX0 "_taken" 1 ["held", "feed", "way"] (spTakenC) := ⟨_, _, gl (by decide +kernel), D22.kp, ok_takenC D22 (fr (by decide +kernel)), D22.bindsN fun _ _ _ _ _ _ us hl => match us, hl with | [_, _, _], _ => rfl⟩
  have cC1 : Cal P w K mg base CX0 "copied" 1 ["value"] (spCopF K) := ⟨_, _, gl (by decide +kernel), D23.kp, ok_copF D23 ⟨fr (by decide +kernel), fr (by decide +kernel), fr (by decide +kernel), fr (by decide +kernel)⟩, D23.bindsN fun _ _ _ _ _ _ us hl => match us, hl with | [_], _ => rfl⟩
  have cC2 : Cal P w K mg base CX0 "copied" 2 ["value"] (spCopV K) := ⟨_, _, gl (by decide +kernel), D23.kp, ok_copV D23 ⟨fr (by decide +kernel), fr (by decide +kernel), fr (by decide +kernel), fr (by decide +kernel)⟩ cC1, D23.bindsN fun _ _ _ _ _ _ us hl => match us, hl with | [_], _ => rfl⟩
  obtain ⟨r1, r⟩ := He.ba oR2
  obtain ⟨r2, r⟩ := He.ba r
  obtain ⟨r3, r⟩ := He.ba r
  obtain ⟨r4, r5⟩ := He.ba r
  obtain ⟨excR, xfR⟩ := Hk.excB_ok oR3
  have MR := He.meth_ok (fc (f := .meth "Refused" "__init__") (List.mem_of_getElem? (i := 24) rfl))
  have TR : TxtRf K mg (He.ga K "Refused") "RuntimeError.__new__" := ⟨Hx.oexB_ok Ge.tl_rt oR1, He.eqO_ok r1, He.eqO_ok r2, gl (by decide +kernel)⟩
  have RF : RefT P w K mg base (He.ga K "Refused") := ⟨_, _, _, TR, PySem.F.excBase_RuntimeError, MR.at_, beq_iff_eq.mp MR.fn, ok_refI D24 TR cC2, D24.bindsN fun _ _ _ _ _ _ us hl => match us, hl with | [_, _, _], _ => rfl⟩
  have name : ∀ z ∈ deeds, ∃ n ∈ cls3, clsOf (He.ga K "Put") (He.ga K "Change") (He.ga K "Take") z = He.ga K n ∧ ((z = "put" ∧ n = "Put") ∨ (z = "change" ∧ n = "Change") ∨ (z = "take" ∧ n = "Take")) := fun z hz => by
    rcases List.mem_cons.mp hz with rfl | hz
    · exact ⟨"Put", by decide, rfl, .inl ⟨rfl, rfl⟩⟩
    rcases List.mem_cons.mp hz with rfl | hz
    · exact ⟨"Change", by decide, rfl, .inr (.inl ⟨rfl, rfl⟩)⟩
    rcases List.mem_cons.mp hz with rfl | hz
    · exact ⟨"Take", by decide, rfl, .inr (.inr ⟨rfl, rfl⟩)⟩
    cases hz
  have MSK : MsK K (He.ga K "Put") (He.ga K "Change") (He.ga K "Take") := fun z hz => by
    obtain ⟨n, hn, e, _⟩ := name z hz
    rw [e]
    have h := List.all_eq_true.mp oK n hn
    have g : ∀ t ∈ kits, PySem.W.kitOne K (.ref (He.ga K n)) (.type t) = some false := fun t ht => of_decide_eq_true (List.all_eq_true.mp h t ht)
    exact ⟨g "list" (by simp [kits]), g "tuple" (by simp [kits]), g "dict" (by simp [kits])⟩
  have cAp : Cal P w K mg base (L2N.CX P w) "applied" 5 ["columns", "habits", "held", "message", "feed"] (spApplied (He.ga K "Habits") (He.ga K "Put") (He.ga K "Change") (He.ga K "Take") (He.ga K "Refused")) := ⟨_, _, gl (by decide +kernel), D25.kp, ok_applied D25 MM cWy cTk cWr cJo cRo cCo RF MSK, D25.bindsN fun _ _ _ _ _ _ us hl => match us, hl with | [_, _, _, _, _], _ => rfl⟩
  have WG := He.meth_ok (fc (f := .meth "Copy" "__getitem__") (List.mem_of_getElem? (i := 26) rfl))
  have WC := He.meth_ok (fc (f := .meth "Copy" "__contains__") (List.mem_of_getElem? (i := 27) rfl))
  have WH := He.meth_ok (fc (f := .meth "Copy" "holders") (List.mem_of_getElem? (i := 25) rfl))
  have WA := He.meth_ok (fc (f := .meth "Copy" "apply") (List.mem_of_getElem? (i := 30) rfl))
  have WI := He.meth_ok (fc (f := .meth "Copy" "__iter__") (List.mem_of_getElem? (i := 28) rfl))
  have WL := He.meth_ok (fc (f := .meth "Copy" "__len__") (List.mem_of_getElem? (i := 29) rfl))
  have FAp := ok_apply (P := P) (w := w) (base := base) D27 TY MM (fr (by decide +kernel)) cAp
  have FHa := ok_habI (P := P) (w := w) (base := base) D26 TH HV
  have cTr : Cal P w K mg base CX0 "_law_tried" 7 ["copy", "message", "feed", "is_plain"] (spTried (He.ga K "Copy") (He.ga K "Habits") (He.ga K "Put") (He.ga K "Change") (He.ga K "Take") (He.ga K "Refused")) := ⟨_, _, gl (by decide +kernel), D34.kp, ok_tried D34 ⟨fr (by decide +kernel), fr (by decide +kernel), fr (by decide +kernel), fr (by decide +kernel), gl (by decide +kernel), excR, xfR, He.eqO_ok r1, He.eqO_ok r2, He.exm_ok (fc (f := .exm "Refused" "Refused" true) (List.mem_of_getElem? (i := 23) rfl)), of_decide_eq_true r3, of_decide_eq_true r4, of_decide_eq_true r5⟩ TY.cl WA D27 FAp, D34.bindsN fun _ _ _ _ _ _ us hl => match us, hl with | [_, _, _, _], _ => rfl⟩
  have cVa : Cal P w K mg base CX0 "_law_values" 1 ["habit"] (spValues) := ⟨_, _, gl (by decide +kernel), D35.kp, ok_values D35, D35.bindsN fun _ _ _ _ _ _ us hl => match us, hl with | [_], _ => rfl⟩
  have cNm : Cal P w K mg base CX0 "_law_names_of_habits" 1 [] (spNamesH) := ⟨_, _, gl (by decide +kernel), D36.kp, ok_namesH D36, D36.bindsN fun _ _ _ _ _ _ us hl => match us, hl with | [], _ => rfl⟩
  have cMd : Cal P w K mg base CX0 "_law_made" 3 ["given"] (spMade (He.ga K "Habits")) := ⟨_, _, gl (by decide +kernel), D37.kp, ok_made D37 (He.mkr_ok (fc (f := .mkr "Habits") (List.mem_of_getElem? (i := 14) rfl))) D26 FHa (gl (by decide +kernel)), D37.bindsN fun _ _ _ _ _ _ us hl => match us, hl with | [_], _ => rfl⟩
  have CF : CopF P w K mg base (He.ga K "Copy") (He.ga K "Habits") := ⟨TY.cl, ⟨_, _, ⟨WC.at_, WC.fn⟩, ok_conC D31 TY, D31.bindsN fun _ _ _ _ _ _ us hl => match us, hl with | [_, _], _ => rfl⟩, ⟨_, _, ⟨WG.at_, oG, WG.fn⟩, ok_getI D30 TY cRo cCo, D30.bindsN fun _ _ _ _ _ _ us hl => match us, hl with | [_, _], _ => rfl⟩, ⟨_, _, WH, ok_holders D29 TY, D29.bindsN fun _ _ _ _ _ _ us hl => match us, hl with | [_, _], _ => rfl⟩⟩
  have cPa : Cal P w K mg base CX0 "_law_place" 4 ["copy", "key"] (spPlace (He.ga K "Copy") (He.ga K "Habits")) := ⟨_, _, gl (by decide +kernel), D38.kp, ok_place D38 CF, D38.bindsN fun _ _ _ _ _ _ us hl => match us, hl with | [_, _], _ => rfl⟩
  have cRw : Cal P w K mg base CX0 "_law_rows" 5 ["copy", "key"] (spRows43 (He.ga K "Copy") (He.ga K "Habits")) := ⟨_, _, gl (by decide +kernel), D39.kp, ok_rows43 D39 ⟨WI.at_, WI.fn⟩ (ok_iterZ D32 TY (fr (by decide +kernel))) (D32.bindsN fun _ _ _ _ _ _ us hl => match us, hl with | [_], _ => rfl) cPa, D39.bindsN fun _ _ _ _ _ _ us hl => match us, hl with | [_, _], _ => rfl⟩
  exact ok_law D40 ⟨cS, cD, cPk, cWs, cN, cVa, cNm, cMd, cPl, cM, cTr, cRw, cR, fr (by decide +kernel), fr (by decide +kernel), fr (by decide +kernel), fr (by decide +kernel), TY.cl, gl (by decide +kernel), ⟨_, _, He.mkr_ok (fc (f := .mkr "Copy") (List.mem_of_getElem? (i := 12) rfl)), ok_copyI D28 TY (fr (by decide +kernel)), D28.bindsN fun _ _ _ _ _ _ us hl => match us, hl with | [_, _, _], _ => rfl⟩, CF.con, CF.get, CF.hol⟩
end Lw

open PySem PySem.W PyProof.Rows in
theorem PySem.Challenge.cw_filteredcopies_k43_whole_keys_apart_holds : PySem.Challenge.rw_filteredcopies_k43_whole_keys_apart.Holds := by
  w_on; o_law
  refine HandSHeadRun.head_any (r := Lw.R) (q := Lw.qv) (H := Lw.hk) (ob := Lw.ob) (M := 9000) (loose := Lw.names) (d := HandSHeadRun.topDef Lw.R.prog 43) (kwd := []) Lw.ob_eq
    (by kernel_rfl) (fun s => by kernel_rfl) Lw.run (by kernel_rfl) (by kernel_rfl) (by kernel_rfl) (by rfl) (by first | assumption | decide +kernel) (by decide +kernel) ⟨rfl, rfl, rfl, rfl, rfl, by decide +kernel⟩ ?hw ?hc
  case hw => w_witness2
  case hc =>
    refine L2.walk_ofE (l := PySem.Challenge.rw_filteredcopies_k43_whole_keys_apart) (n := 63) (k := 8) (x := "script") (CX := L2.CX0) rfl (by decide) (by kernel_rfl) ⟨rfl, by decide, by decide⟩ ?F (fun _ _ _ _ z => z)
    intro w mg fa h Y G hmg0
    obtain ⟨K, KX, c⟩ := Y
    have hmg : mg ("law" : PySem.Str) = some (.ref fa) := by
      have e : (HandSHeadRun.topDef Lw.R.prog 43).name = ("law" : PySem.Str) := by kernel_rfl
      rw [← e]
      exact hmg0
    obtain ⟨fd, hb, hF⟩ := Lw.facts (P := (PySem.Challenge.rw_filteredcopies_k43_whole_keys_apart).prog) (w := w) KX G hmg c
    exact ⟨K, fd, Lw.spLaw K, KX, hb, fun H a ns hl _ hS => ⟨a, ns, rfl, hS, hl, fun _ => rfl⟩, hF⟩
