import PyProof.Rows.All
import Wide.All
import OpenK.AllK
import Wide.FinOn
import HandS.Base
import HandS.Call
import HandS.List
import HandS.Comp
import HandS.Dict
import HandS.Iter
import HandS.Text
import HandS.Ends
import HandS.Words
import HandS.WordsList
import HandS.Exc
import HandS.ExcOwn
import HandS.TryOnly
import HandS.ExcInit
import HandS.More
import HandS.Defaults
import HandS.Walk
import KE.KExcIs
import HandS.IsInst
import HandS.ExcIs
import HandS.ExcField
import HandS.Style
import HandS.WordsExc
import HandS.Head0
import HandS.Head1
import HandS.Head2
import HandS.HeadEnd
import HandS.HeadHook1
import HandS.HeadHook2
import HandS.HeadHook3
import HandS.ExcCtx
import HandS.HotCalls
import HandS.ClsMeth
import HandS.Star
import HandS.MakeKwOnly
import HandS.Wide
import HandS.ListItems
import HandS.Finally
import KE.KDictList
import PyProof.FactsAll.dict_3
import HandS.HeadNt
import HandS.Property
import HandS.OwnEq
import KE.KExcInit
import HandS.RaiseMore
import PyProof.ReprRoads
import PyProof.Rows.RuleB_bool
import HandS.IterVal
import HandS.OwnIter
import OpenK.KOps
import HandS.DictComp
import PyProof.ReprLen
import PySem.Challenge.RW_filteredcopies_k03_tables
set_option Elab.async false
set_option linter.all false
set_option maxRecDepth 100000
set_option maxHeartbeats 4000000
namespace Lw
open PySem PySem.Spec PyProof.Rows L2
abbrev MethD (K : PySem.W.Frag) (x q : Str) (st : Stmt) (f : Addr) (fd : FuncData) : Prop := FunD K x q (defArgs st) (defBody st) (defScope st) [] [] f fd
/-! heaps: all but what stands at a is kept -/
def Keep (a : Addr) (H H' : Hp) : Prop := ∀ b o, b ≠ a → H b = some o → H' b = some o
theorem Keep.refl {a : Addr} (H : Hp) : Keep a H H := fun _ _ _ h => h
theorem Keep.trans {a : Addr} {H H1 H2 : Hp} (x : Keep a H H1) (y : Keep a H1 H2) : Keep a H H2 := fun b o n h => y b o n (x b o n h)
theorem Keep.of_same {a : Addr} {H H' : Hp} (s : Same H H') : Keep a H H' := fun b o _ h => s b o h
theorem Keep.upd {a : Addr} {H H' : Hp} {o : HO} (k : Keep a H H') : Keep a H (upd H' a o) := fun b u n h => by
  rw [upd_ne n]
  exact k b u n h
theorem Keep.new {a p : Addr} {H H' : Hp} {o : HO} (k : Keep a H H') (hp : H' p = none) : Keep a H (L2.upd H' p o) := fun b u n h => by
  rw [upd_ne (ne_of_none (k b u n h) hp)]
  exact k b u n h
theorem Keep.seq {K : PySem.W.Frag} {a b : Addr} {H H' : Hp} {xs : List V} (k : Keep a H H') (n : b ≠ a) (h : SqL K H b xs) : SqL K H' b xs := by
  rcases h with (h | ⟨o, h⟩) | h
  · exact .inl (.inl (k _ _ n h))
  · exact .inl (.inr ⟨o, k _ _ n h⟩)
  · exact .inr h
theorem Keep.seqT {K : PySem.W.Frag} {a b : Addr} {H H' : Hp} {xs : List V} (k : Keep a H H') (n : b ≠ a) (h : SqT K H b xs) : SqT K H' b xs := by
  rcases h with (h | ⟨o, h⟩) | h
  · exact .inl (.inl (k _ _ n h))
  · exact .inl (.inr ⟨o, k _ _ n h⟩)
  · exact .inr h
/-- the drawing's source: three numbers; n bounds how often was drawn -/
def Src (H : Hp) (a : Addr) (n : Nat) : Prop := ∃ d s t : Int, H a = some (.lst [.int d, .int s, .int t]) ∧ 0 ≤ d ∧ 0 ≤ s ∧ s < 9223372036854775808 ∧ 0 ≤ t ∧ t ≤ (n : Int)
theorem Src.mono {H : Hp} {a : Addr} {n m : Nat} (h : Src H a n) (l : n ≤ m) : Src H a m := by
  obtain ⟨d, s, t, h1, h2, h3, h4, h5, h6⟩ := h
  exact ⟨d, s, t, h1, h2, h3, h4, h5, by omega⟩
theorem Src.new {H : Hp} {a p : Addr} {n : Nat} {o : HO} (h : Src H a n) (hp : H p = none) : Src (upd H p o) a n := by
  obtain ⟨d, s, t, h1, h2⟩ := h
  exact ⟨d, s, t, by rw [upd_ne (ne_of_none h1 hp)]; exact h1, h2⟩
theorem Src.ne {H : Hp} {a p : Addr} {n : Nat} (h : Src H a n) (hp : H p = none) : p ≠ a := by
  obtain ⟨d, s, t, h1, _⟩ := h
  exact (ne_of_none h1 hp).symm
abbrev big : Nat := 1000000000
/-! steps: a statement's reading by what its expression comes to -/
section
variable {te : TE} {c : TT} {u v t1 t2 : TS} {D : Ends} {σ : L2.St} {H : Hp} {i : Nat}
theorem sq_set (P : V → Hp → Prop) (h : ∀ Q : VK, (∀ x H', P x H' → Q x H') → te σ H Q) (k : ∀ x H', P x H' → u D (σ.set i (some x)) H') : tSeq (tAsg te (gName i)) u D σ H := h _ k
theorem s1_set (P : V → Hp → Prop) (h : ∀ Q : VK, (∀ x H', P x H' → Q x H') → te σ H Q) (k : ∀ x H', P x H' → D.nx (σ.set i (some x)) H') : (tAsg te (gName i)) D σ H := h _ k
theorem sq_par {j : Nat} {ta : TA} (P : V → V → Hp → Prop) (h : ∀ Q : List V → Hp → Prop, (∀ x y H', P x y H' → Q [x, y] H') → ta σ H Q) (k : ∀ x y H', P x y H' → u D ((σ.set i (some x)).set j (some y)) H') : tSeq (tPar i j ta) u D σ H := h _ fun x y H' p => ⟨x, y, rfl, k x y H' p⟩
theorem sq_do (P : V → Hp → Prop) (h : ∀ Q : VK, (∀ x H', P x H' → Q x H') → te σ H Q) (k : ∀ x H', P x H' → u D σ H') : tSeq (tDrop te) u D σ H := h _ k
theorem sq_if (P : Bool → Hp → Prop) (h : ∀ Q : Bool → Hp → Prop, (∀ b H', P b H' → Q b H') → c σ H Q) (kt : ∀ H', P true H' → t1 { D with nx := u D } σ H') (kf : ∀ H', P false H' → t2 { D with nx := u D } σ H') : tSeq (tIfS c t1 t2) u D σ H :=
  h _ fun b H' p => by
    cases b with
    | true => rw [if_pos rfl]; exact kt H' p
    | false => rw [if_neg Bool.false_ne_true]; exact kf H' p
theorem sq_if1 (P : Bool → Hp → Prop) (h : ∀ Q : Bool → Hp → Prop, (∀ b H', P b H' → Q b H') → c σ H Q) (kt : ∀ H', P true H' → t1 { D with nx := u D } σ H') (kf : ∀ H', P false H' → u D σ H') : tSeq (tIfS c t1 tNext) u D σ H := sq_if P h kt kf
theorem s1_if (P : Bool → Hp → Prop) (h : ∀ Q : Bool → Hp → Prop, (∀ b H', P b H' → Q b H') → c σ H Q) (kt : ∀ H', P true H' → t1 D σ H') (kf : ∀ H', P false H' → t2 D σ H') : (tIfS c t1 t2) D σ H :=
  h _ fun b H' p => by
    cases b with
    | true => rw [if_pos rfl]; exact kt H' p
    | false => rw [if_neg Bool.false_ne_true]; exact kf H' p
theorem s1_ret (P : V → Hp → Prop) (h : ∀ Q : VK, (∀ x H', P x H' → Q x H') → te σ H Q) (k : ∀ x H', P x H' → D.rt x H') : tRet te D σ H := h _ k
end
/-! promises -/
def spSource (K : PySem.W.Frag) : Sp := fun vs H Q _ => ∃ (a : Addr) (ns : List Int) (i : Int), vs = [.ref a, .int i] ∧ SqL K H a (ns.map V.int) ∧ ns.length ≤ 1000 ∧ 0 ≤ i ∧ i ≤ 1000 ∧
  ∀ p H', H p = none → Same H H' → Src H' p 0 → Q (.ref p) H'
def spDraw : Sp := fun vs H Q _ => ∃ (a : Addr) (n : Nat) (m : Int), vs = [.ref a, .int m] ∧ Src H a n ∧ n ≤ 1000000000 ∧ 0 < m ∧ m ≤ 1000000000 ∧
  ∀ H' i, Keep a H H' → Src H' a (n + 1) → 0 ≤ i → i < m → Q (.int i) H'
def spOf (K : PySem.W.Frag) : Sp := fun vs H Q _ => ∃ (a b : Addr) (n : Nat) (xs : List V), vs = [.ref a, .ref b] ∧ Src H a n ∧ n ≤ 1000000000 ∧ b ≠ a ∧ SqL K H b xs ∧ xs ≠ [] ∧ xs.length ≤ 100000 ∧
  ∀ H' x, Keep a H H' → Src H' a (n + 1) → x ∈ xs → Q x H'
def spNumber : Sp := fun vs H Q _ => ∃ (a : Addr) (n : Nat), vs = [.ref a] ∧ Src H a n ∧ n ≤ 900000000 ∧
  ∀ H' i, Keep a H H' → Src H' a (n + 8) → Q (.int i) H'
structure TxtD (mg : Str → Option Value) : Prop where
  len : mg "len" = none
  abs : mg "abs" = none
  int : mg "int" = none
  range : mg "range" = none
abbrev FnP (K : PySem.W.Frag) (x : Str) (st : Stmt) (f : Addr) (fd : FuncData) : Prop := FunD K x x (defArgs st) (defBody st) (defScope st) [] [] f fd
section
variable {P : Program} {w : World} {K : PySem.W.Frag} {mg : Str → Option Value} {base : Heap}
theorem bool_ite {c : Prop} [Decidable c] {A B : Prop} (h1 : c → A) (h2 : ¬ c → B) : if decide c = true then A else B := by
  by_cases h : c
  · rw [decide_eq_true h, if_pos rfl]; exact h1 h
  · rw [decide_eq_false h, if_neg Bool.false_ne_true]; exact h2 h
theorem atI_get {α : Type} {xs : List α} {i : Int} (h0 : 0 ≤ i) (h1 : i < xs.length) : ∃ x, atI xs i = some x ∧ x ∈ xs := by
  have e : i.toNat < xs.length := by omega
  refine ⟨xs[i.toNat], ?_, List.getElem_mem e⟩
  unfold atI ixN
  rw [if_pos h0, if_pos h1]
  simp [e]
theorem fmod_src (x : Int) : 0 ≤ x.fmod 2305843009213693951 ∧ x.fmod 2305843009213693951 < 2305843009213693951 :=
  ⟨Int.fmod_nonneg_of_pos x (by decide), Int.fmod_lt_of_pos x (by decide)⟩

/-! a def of the top, called by its name -/
def DefIs (K : PySem.W.Frag) (mg : Str → Option Value) (x : Str) (st : Stmt) : Prop := ∃ f fd, mg x = some (.ref f) ∧ FnP K x st f fd
structure Cal (P : Program) (w : World) (K : PySem.W.Frag) (mg : Str → Option Value) (base : Heap) (CX : CXT) (x : Str) (k : Nat) (ps : List Str) (sp : Sp) : Prop where
  ex : ∃ f fd, mg x = some (.ref f) ∧ PySem.W.keepIn K (.ref f) = true ∧ FnOk P w K mg base CX k f fd ps sp ∧ Binds K fd ps []
end
section
variable {X : Cx} {x : Str} {p pos : Pos} {e : Expr} {es : List Expr} {t : TA} {k : Nat} {ps : List Str} {sp : Sp}
theorem pe_cal (c : Cal X.prog X.w X.K X.mg X.base CX0 x k ps sp) (hr : Room k X.A) (ha : PA X (e :: es) t) (hg : Gl X x := by rfl) (hdb : (x == ("__debug__" : Str)) = false := by decide)
    (he : starEach (e :: es) X.env = (false, eval e X.env) :: starEach es X.env := by rfl) (hpl : (backTo pos (starEach es X.env)).any (·.1) = false := by rfl) :
    PE X (.Call (.Name x p) (e :: es) [] pos) (tCall sp [] E0 t) := by
  obtain ⟨f, fd, hm, hk, F, b⟩ := c.ex
  exact pe_call F hr hg hm hk b .nil pass0 ha hdb he hpl
end
section
variable {P : Program} {w : World} {K : PySem.W.Frag} {mg : Str → Option Value} {base : Heap}
end
/-! words -/
def IsWord (z : Str) : Prop := 1 ≤ z.length ∧ z.length ≤ 8 ∧ ∀ c ∈ z.cps.toList, 97 ≤ c ∧ c ≤ 122
def abc : List Nat := [97, 98, 99, 100, 101, 102, 103, 104, 105, 106, 107, 108, 109, 110, 111, 112, 113, 114, 115, 116, 117, 118, 119, 120, 121, 122]
def sign (c : Nat) : Str := ⟨#[c]⟩
abbrev letters : Str := "abcdefghijklmnopqrstuvwxyz"
theorem letters_eq : letters = ⟨abc.toArray⟩ := by decide +kernel
theorem abc_le {c : Nat} (h : c ∈ abc) : 97 ≤ c ∧ c ≤ 122 := by
  have h2 : ∀ c ∈ abc, 97 ≤ c ∧ c ≤ 122 := by decide
  exact h2 c h
theorem tl_sign (c : Nat) : (sign c).cps.toList = [c] := rfl
theorem joinL_flat : ∀ l : List (List Nat), TL.joinL [] l = l.flatten
  | [] => rfl
  | [p] => by simp [TL.joinL]
  | p :: q :: r => by
    show p ++ ([] ++ TL.joinL [] (q :: r)) = _
    rw [joinL_flat (q :: r)]
    simp
theorem join_signs (e : Str) (he : e.cps = #[]) (cs : List Nat) : (Txt.join e (cs.map sign)).cps.toList = cs := by
  rw [TL.join_eq]
  have h : (Str.join e (cs.map sign)).cps.toList = TL.joinL e.cps.toList ((cs.map sign).map fun z => z.cps.toList) := TL.tl_join e (cs.map sign)
  rw [h, he]
  show TL.joinL [] _ = _
  rw [joinL_flat, List.map_map]
  clear h
  induction cs with
  | nil => rfl
  | cons c r ih =>
    rw [List.map_cons, List.flatten_cons, ih]
    rfl
theorem nodup_le : ∀ {l ts : List Str}, l.Nodup → (∀ x ∈ l, x ∈ ts) → l.length ≤ ts.length
  | [], _, _, _ => Nat.zero_le _
  | x :: l, ts, hn, hs => by
    have hx : x ∈ ts := hs x List.mem_cons_self
    have hn2 := List.nodup_cons.mp hn
    have ih := nodup_le (l := l) (ts := ts.erase x) hn2.2 fun y hy => by
      have ne : y ≠ x := fun e => hn2.1 (e ▸ hy)
      exact (List.mem_erase_of_ne ne).mpr (hs y (List.mem_cons_of_mem _ hy))
    rw [List.length_erase_of_mem hx] at ih
    have pos : 0 < ts.length := List.length_pos_of_mem hx
    simp only [List.length_cons]
    omega
def cand (w : Str) (c : Nat) : Str := cutS (sign c ++ w) none (some 8)
theorem tl_app (a b : Str) : (a ++ b).cps.toList = a.cps.toList ++ b.cps.toList := by
  rw [PySem.Str.cps_append, Array.toList_append]
theorem len_tl (a : Str) : a.length = a.cps.toList.length := by simp [Str.length]
theorem cand_tl (w : Str) (c : Nat) : (cand w c).cps.toList = (c :: w.cps.toList).take 8 := by
  unfold cand cutS
  have e : (sign c ++ w).cps.toList = c :: w.cps.toList := tl_app _ _
  have l : (sign c ++ w).length = w.cps.toList.length + 1 := by rw [len_tl, e]; rfl
  rw [e, l]
  have h8 : HT.sIx (w.cps.toList.length + 1) (w.cps.toList.length + 1) (some 8) = min 8 (w.cps.toList.length + 1) := HT.sIx_nat _ _ 8
  rw [h8]
  show (List.take (min 8 (w.cps.toList.length + 1) - 0) (List.drop 0 (c :: w.cps.toList))) = _
  rw [Nat.sub_zero, List.drop_zero]
  have : (c :: w.cps.toList).length = w.cps.toList.length + 1 := rfl
  rw [← this, ← List.take_eq_take_min]
theorem cand_word {w : Str} {c : Nat} (h : IsWord w) (hc : c ∈ abc) : IsWord (cand w c) := by
  have e := cand_tl w c
  obtain ⟨h1, h2, h3⟩ := h
  rw [len_tl] at h1 h2
  refine ⟨?_, ?_, fun d hd => ?_⟩
  · rw [len_tl, e]; simp
  · rw [len_tl, e]; simp; omega
  · rw [e] at hd
    rcases List.mem_cons.mp (List.mem_of_mem_take hd) with q | q
    · rw [q]; exact abc_le hc
    · exact h3 d q
theorem cand_inj {w : Str} {c d : Nat} (h : cand w c = cand w d) : c = d := by
  have e : (cand w c).cps.toList = (cand w d).cps.toList := by rw [h]
  rw [cand_tl, cand_tl] at e
  simpa using e
theorem free_some (w : Str) (ts : List Str) (h : ts.length ≤ 25) : abc.filter (fun c => !decide (cand w c ∈ ts)) ≠ [] := by
  intro e
  have ha : ∀ c ∈ abc, cand w c ∈ ts := fun c hc => by
    have := List.filter_eq_nil_iff.mp e c hc
    simpa using this
  have nd : (abc.map (cand w)).Nodup := by
    have h0 : abc.Nodup := by decide
    exact List.Pairwise.map _ (fun a b ne q => ne (cand_inj q)) h0
  have l := nodup_le nd (ts := ts) (fun x hx => by
    obtain ⟨c, hc, rfl⟩ := List.mem_map.mp hx
    exact ha c hc)
  rw [List.length_map] at l
  have : abc.length = 26 := rfl
  omega
theorem inV_str (w : Str) (ts : List Str) : inV (.str w) (ts.map V.str) = decide (w ∈ ts) := by
  unfold inV
  rw [List.any_map]
  apply Bool.eq_iff_iff.mpr
  simp only [List.any_eq_true, Function.comp, decide_eq_true_eq]
  constructor
  · rintro ⟨y, hy, e⟩
    have e2 : (y == w) = true := e
    exact (eq_of_beq e2) ▸ hy
  · intro h
    exact ⟨w, h, beq_self_eq_true w⟩
theorem flat_strs (ts : List Str) : (ts.map V.str).all flatV = true := by
  rw [List.all_map]
  exact List.all_eq_true.mpr fun _ _ => rfl
abbrev nWord : List Str := ["source", "taken", "letters", "word", "free", "turn", "letter"]
def spWord (K : PySem.W.Frag) : Sp := fun vs H Q _ => ∃ (a b : Addr) (n : Nat) (ts : List Str), vs = [.ref a, .ref b] ∧ Src H a n ∧ n ≤ 900000000 ∧ b ≠ a ∧ SqL K H b (ts.map V.str) ∧ ts.length ≤ 25 ∧
  ∀ H' w, Keep a H H' → Src H' a (n + 10) → IsWord w → w ∉ ts → Q (.str w) H'
section
variable {P : Program} {w : World} {K : PySem.W.Frag} {mg : Str → Option Value} {base : Heap}
theorem str_notmem {z : Str} {ts : List Str} {A B : Prop} (h1 : z ∉ ts → A) (h2 : z ∈ ts → B) : if (if true = true then !inV (.str z) (ts.map V.str) else inV (.str z) (ts.map V.str)) = true then A else B := by
  rw [if_pos rfl, inV_str]
  by_cases h : z ∈ ts
  · rw [decide_eq_true h, Bool.not_true, if_neg Bool.false_ne_true]; exact h2 h
  · rw [decide_eq_false h, Bool.not_false, if_pos rfl]; exact h1 h
theorem letters_cps : letters.cps = abc.toArray := by rw [letters_eq]
theorem abc_at {i : Int} (h0 : 0 ≤ i) (h1 : i < 26) : ∃ c, atI letters.cps.toList i = some c ∧ c ∈ abc := by
  rw [letters_cps]
  exact atI_get (xs := abc) h0 (by show i < 26; exact h1)
end
/-! isinstance of a caught error that has its own dict -/
def rIsED (K : PySem.W.Frag) (cls : Value) (d : Option Addr) (a : Addr) : List V → Hp → VK → Prop := fun xs H Q =>
  ∃ (D dd : Addr) (c : V) (cv : Value) (b : Bool) (fs : List (Str × V)), cls = .ref D ∧ d = some dd ∧ ExcC K D ∧ xs = [.ref a, c] ∧ (∀ u, RelV c u → u = cv) ∧ H dd = some (.xd fs) ∧ PySem.W.kitOne K (.ref D) cv = some b ∧ Q (.bl b) H
theorem call_isED {X : Cx} {a : Addr} {cls : Value} {d : Option Addr} {oe : Obj} {pn : List (Addr × Obj)} (hz : Zc cls d oe) (hf : ∃ vs, oe.data = .fields vs) :
    CallR (X.suite a ((a, oe) :: pn)) (.builtin "isinstance") (rIsED X.K cls d a) := by
  intro pins s σ H xs us Q I r h
  obtain ⟨D, dd, c, cv, b, fs, rfl, rfl, C, rfl, hcv, hdd, e, q⟩ := h
  obtain ⟨u1, u2, rfl, r1, r2⟩ := vals2 r
  obtain rfl : u1 = Value.ref a := r1
  obtain rfl := hcv _ r2
  have hp := (I.pin (a, oe) (List.mem_append_left _ List.mem_cons_self)).1
  obtain ⟨mA, hns, _⟩ := (show ObjOk X.prog X.w H s.heap dd (.xd fs) from I.hok dd _ hdd)
  obtain ⟨od, ho, _⟩ := lookIn_ns hns
  obtain ⟨vs, hv⟩ := hf
  have J : PySem.W.InstAt s.heap a oe D (some od) := ⟨hp, hz.1, by unfold PySem.W.notCls; rw [hv] <;> rfl, by rw [hz.2]; exact ho⟩
  have hc : (PySem.W.clsIn X.K D).isSome = true := by
    have z := C.hd
    unfold PySem.W.hasDictIn at z
    cases q : PySem.W.clsIn X.K D with
    | none => rw [q] at z; cases z
    | some y => rfl
  exact PySem.W.kia_one (PySem.W.kitx_exc hc C.hg C.hk C.hs C.ha C.hn C.ht C.hm) I.kIn J e (fun z => nomatch z) fun tk => ⟨.bl b, H, I.tok tk, rfl, q⟩
/-! f(k = v, ..), nothing by position, what it raises wished for at the caller's slots -/
def tCallKS (m : Nat) (sp : Sp) (gV : List V → List V → List V) (E : L2.St → XK) (tk : TA) : TE := fun σ H Q => tk σ H fun zs H2 => zs.length = m ∧ sp (gV [] zs) H2 Q (E σ)
section
variable {X : Cx} {CX : CXT} {k : Nat} {f : Addr} {fd : FuncData} {ps ks : List Str} {sp : Sp} {E : L2.St → XK} {x : Str} {p pos : Pos} {kws : List Keyword} {tk : TA} {g : List Value → List Value → List Value} {gV : List V → List V → List V}
theorem pe_callKS (F : FnOk X.prog X.w X.K X.mg X.base CX k f fd ps sp) (hr : Room k X.A) (hm : X.mg x = some (.ref f)) (hk : PySem.W.keepIn X.K (.ref f) = true) (hb : KBn X.K fd ps 0 ks g gV) (hx : ∀ σ, PassesAt CX X σ (E σ)) (hkw : PK X kws tk)
    (hg : Gl X x := by rfl) (hall : (backToKw pos (keywordEach kws X.env)).all (·.1.isSome) = true := by rfl) (hks : (backToKw pos (keywordEach kws X.env)).filterMap (·.1) = ks := by rfl) (hdb : (x == ("__debug__" : Str)) = false := by decide)
    (hpl : ((backTo pos (starEach [] X.env)).any (·.1) || (backToKw pos (keywordEach kws X.env)).any (·.1.isNone)) = false := by rfl) :
    PE X (.Call (.Name x p) [] kws pos) (tCallKS ks.length sp gV E tk) := by
  refine ⟨fun pins s σ H Q I h => wpAny_Call_Name_kw (ld_glob I hg hm ?_ hdb)⟩
  refine PySem.W.callWith_KW0 (h₀ := X.base) I.ok.mod.kin hk hall (thn (hkw.run pos pins s σ H _ I h) fun ws s2 ⟨zs, H2, I2, rz, l2, q2⟩ => ⟨I2.kIn, ?_⟩) hpl
  rw [hks]
  have r2 := hb.rel .nil rz
  have bt := hb.to s2 [] ws I2.kIn rfl (rz.length.symm.trans l2)
  refine wpAny_call (codeAny_mono (F.run X.A X.stack s2 H2 ⟨[], ks.zip ws⟩ (g [] ws) (gV [] zs) Q (E σ) hr I2.env0 bt r2 q2) fun r s' hq => ?_)
  match r, hq with
  | .error e, hq => exact hx σ pins H2 s2 e s' I2 hq
  | .ok (.ret u), hq => exact I2.after hq
  | .ok .next, hq => exact hq.elim
  | .ok .brk, hq => exact hq.elim
  | .ok .cont, hq => exact hq.elim
end
structure TxtP (mg : Str → Option Value) : Prop where
  isi : mg "isinstance" = none
  int : mg "int" = none
  bool : mg "bool" = none
  str : mg "str" = none
  list : mg "list" = none
  tuple : mg "tuple" = none
  dict : mg "dict" = none
  len : mg "len" = none
  all : mg "all" = none
  longest : ∃ t, mg "LONGEST_WORD" = some (.int 8 t)
/-- a value of a built-in type t -/
def IsTy (K : PySem.W.Frag) (H : Hp) (v : V) (t : String) : Prop := TyX K H v (.type t)
def NotTy (K : PySem.W.Frag) (H : Hp) (v : V) (c : String) : Prop := ∃ t, TyX K H v (.type t) ∧ kitB t c = some false
def isWordB (z : Str) : Bool := decide (1 ≤ z.length) && (decide (z.length ≤ 8) && z.cps.toList.all fun c => decide (97 ≤ c) && decide (c ≤ 122))
theorem isWordB_iff (z : Str) : isWordB z = true ↔ IsWord z := by
  unfold isWordB IsWord
  simp only [Bool.and_eq_true, decide_eq_true_eq, List.all_eq_true]
theorem isWordB_true {z : Str} (h : IsWord z) : isWordB z = true := (isWordB_iff z).mpr h
theorem isWordB_false {z : Str} (h : ¬ IsWord z) : isWordB z = false := by
  cases e : isWordB z with
  | false => rfl
  | true => exact absurd ((isWordB_iff z).mp e) h
def spIsInteger (K : PySem.W.Frag) : Sp := fun vs H Q _ => ∃ (v : V) (b : Bool), vs = [v] ∧
  ((b = true ∧ ∃ i, v = .int i) ∨ (b = false ∧ ((∃ c, v = .bl c) ∨ NotTy K H v "int"))) ∧ Q (.bl b) H
def spIsWord (K : PySem.W.Frag) : Sp := fun vs H Q _ => ∃ (v : V) (b : Bool), vs = [v] ∧
  ((∃ z, v = .str z ∧ z.length ≤ 1000 ∧ b = isWordB z) ∨ (b = false ∧ NotTy K H v "str")) ∧ ∀ H', Same H H' → Q (.bl b) H'
def spCopied (K : PySem.W.Frag) : Sp := fun vs H Q _ => ∃ (v : V), vs = [v] ∧ NotTy K H v "list" ∧ NotTy K H v "tuple" ∧ NotTy K H v "dict" ∧ Q v H
section
variable {P : Program} {w : World} {K : PySem.W.Frag} {mg : Str → Option Value} {base : Heap}
theorem ty_int {H : Hp} (i : Int) : TyX K H (.int i) (.type "int") := .base (.int i)
theorem ty_bl {H : Hp} (i : Bool) : TyX K H (.bl i) (.type "bool") := .base (.bl i)
theorem ty_str {H : Hp} (i : Str) : TyX K H (.str i) (.type "str") := .base (.str i)
theorem ty_non {H : Hp} : TyX K H .non (.type "NoneType") := .base .non
theorem lt_sign (c d : Nat) : decide (([c] : List Nat) < [d]) = decide (c < d) := by
  have : (([c] : List Nat) < [d]) ↔ c < d := by
    rw [List.cons_lt_cons_iff]
    simp
  simp only [this]
end
theorem exc_end {H : Hp} {a C d : Addr} {fs : List (Str × V)} (na : H a = none) (nd : upd H a (exo a C none) d = none) (da : d ≠ a) :
    H d = none ∧ Same H (upd (del (upd (upd (upd H a (exo a C none)) d (exd d fs)) a (exo a C (some d))) a) d (.xd fs)) := by
  have n2 : H d = none := by rw [upd_ne da] at nd; exact nd
  refine ⟨n2, fun b o h => ?_⟩
  rw [upd_ne (ne_of_none h n2), del_ne (ne_of_none h na), upd_ne (ne_of_none h na), upd_ne (ne_of_none h n2), upd_ne (ne_of_none h na)]
  exact h
theorem Same.new {H H1 : Hp} {p : Addr} {o : HO} (s : Same H H1) (h : H1 p = none) : Same H (upd H1 p o) := fun b u e => by
  rw [upd_ne (ne_of_none (s b u e) h)]
  exact s b u e
section
variable {P : Program} {w : World} {K : PySem.W.Frag} {mg : Str → Option Value} {base : Heap}
theorem nt_str {H : Hp} (z : Str) : NotTy K H (.str z) "list" ∧ NotTy K H (.str z) "tuple" ∧ NotTy K H (.str z) "dict" :=
  ⟨⟨_, ty_str z, by decide +kernel⟩, ⟨_, ty_str z, by decide +kernel⟩, ⟨_, ty_str z, by decide +kernel⟩⟩
theorem NotTy.same {H H1 : Hp} {v : V} {c : String} (s : Same H H1) (h : NotTy K H v c) : NotTy K H1 v c := by
  obtain ⟨t, ht, k⟩ := h
  refine ⟨t, ?_, k⟩
  cases ht with
  | base b => cases b with
    | non => exact .base .non
    | bl y => exact .base (.bl y)
    | int i => exact .base (.int i)
    | str y => exact .base (.str y)
    | flt y => exact .base (.flt y)
    | lst e => exact .base (.lst (s _ _ e))
    | frz e => exact .base (.frz (s _ _ e))
    | tup e => exact .base (.tup (s _ _ e))
    | dK e => exact .base (.dK (s _ _ e))
    | dT e => exact .base (.dT (s _ _ e))
  | byt b => exact .byt b
  | set e => exact .set (s _ _ e)
  | kList e c => exact .kList e c
  | kTuple e c => exact .kTuple e c
  | kDict e c => exact .kDict e c
  | fTuple e => exact .fTuple (s _ _ e)
  | fDict e => exact .fDict (s _ _ e)
theorem not_nt_str {H : Hp} {z : Str} (h : NotTy K H (.str z) "str") : False := by
  obtain ⟨t, ht, k⟩ := h
  generalize hv : V.str z = v at ht
  generalize hu : Value.type t = u at ht
  cases ht with
  | base b =>
    cases b with
    | str y =>
      cases hu
      exact absurd k (by decide +kernel)
    | _ => cases hv
  | _ => cases hv
end
def oddStrs : List Str := ["", "abcdefghi", "A", "aB", "a1", "a b", " a", "a_", "-"]
inductive Odd (a : Addr) (H : Hp) : V → Prop where
  | str {z : Str} (h : z ∈ oddStrs) : Odd a H (.str z)
  | non : Odd a H .non
  | int (i : Int) : Odd a H (.int i)
  | bl (b : Bool) : Odd a H (.bl b)
  | tup {p : Addr} {xs : List V} (n : p ≠ a) (h : H p = some (.tup xs)) (e : xs = [] ∨ xs = [.str "a"]) : Odd a H (.ref p)
  | lst {p : Addr} {xs : List V} (n : p ≠ a) (h : H p = some (.lst xs)) (e : xs = [] ∨ xs = [.str "a"]) : Odd a H (.ref p)
  | dic {p : Addr} (n : p ≠ a) (h : H p = some (.dK [(.inr "a", .str "b")])) : Odd a H (.ref p)
theorem Odd.keep {a : Addr} {H H' : Hp} {v : V} (k : Keep a H H') (h : Odd a H v) : Odd a H' v := by
  cases h with
  | str h => exact .str h
  | non => exact .non
  | int i => exact .int i
  | bl b => exact .bl b
  | tup n h e => exact .tup n (k _ _ n h) e
  | lst n h e => exact .lst n (k _ _ n h) e
  | dic n h => exact .dic n (k _ _ n h)
theorem odd_notword {K : PySem.W.Frag} {a : Addr} {H : Hp} {v : V} (h : Odd a H v) : (∃ z, v = .str z ∧ z.length ≤ 1000 ∧ ¬ IsWord z) ∨ NotTy K H v "str" := by
  cases h with
  | @str z h =>
    have e : ∀ z ∈ oddStrs, (decide (z.length ≤ 1000) && !isWordB z) = true := by decide +kernel
    have e2 := e z h
    simp only [Bool.and_eq_true, decide_eq_true_eq, Bool.not_eq_true'] at e2
    exact .inl ⟨z, rfl, e2.1, fun hw => by rw [isWordB_true hw] at e2; cases e2.2⟩
  | non => exact .inr ⟨_, ty_non, by decide +kernel⟩
  | int i => exact .inr ⟨_, ty_int i, by decide +kernel⟩
  | bl b => exact .inr ⟨_, ty_bl b, by decide +kernel⟩
  | tup n h e => exact .inr ⟨_, .base (.tup h), by decide +kernel⟩
  | lst n h e => exact .inr ⟨_, .base (.lst h), by decide +kernel⟩
  | dic n h => exact .inr ⟨_, .base (.dK h), by decide +kernel⟩
theorem same_new2 {H : Hp} {p : Addr} {o u : HO} (n : H p = none) : Same H (upd (upd H p o) p u) := fun b x h => by
  rw [upd_ne (ne_of_none h n), upd_ne (ne_of_none h n)]
  exact h
def spOdd : Sp := fun vs H Q _ => ∃ (a : Addr) (n : Nat), vs = [.ref a] ∧ Src H a n ∧ n ≤ 900000000 ∧ ∀ H' v, Keep a H H' → Src H' a (n + 1) → Odd a H' v → Q v H'
theorem Src.same {H H1 : Hp} {a : Addr} {n : Nat} (s : Same H H1) (h : Src H a n) : Src H1 a n := by
  obtain ⟨d, x, t, h1, h2⟩ := h
  exact ⟨d, x, t, s _ _ h1, h2⟩
section
variable {P : Program} {w : World} {K : PySem.W.Frag} {mg : Str → Option Value} {base : Heap}
end
theorem kb_of {K : PySem.W.Frag} {x qual : Str} {params : Arguments} {body : List Stmt} {scope : Scope} {kws : List (Str × V)} {f : Addr} {fd : FuncData} {ps : List Str} (F : FunD K x qual params body scope [] kws f fd)
    (h : ∀ (kV doc pm : Value) (an : Option Addr) (cdv ct : Value) (ws : List Value), ws.length = ps.length → bindArgs (PySem.W.fnOf x qual params body scope .none kV doc pm an cdv ct) ⟨[], ps.zip ws⟩ = pure (ps.zip ws)) : KBn K fd ps 0 ps (fun _ ws => ws) (fun _ zs => zs) := by
  obtain ⟨oc, od, dV, kV, doc, pm, an, cdv, ct, osl, rfl, lk, hcd, hD, hK⟩ := F.ex
  rcases hD with ⟨_, rfl⟩ | ⟨e, _⟩
  · exact ⟨fun s us ws _ l1 l2 => by
      obtain rfl : us = [] := List.length_eq_zero_iff.mp l1
      exact .of_eq (h kV doc pm an cdv ct ws l2), fun _ r => r⟩
  · exact absurd rfl e
end Lw
namespace Hk
open PySem PySem.Spec PyProof.Rows L2
/-! a Hook: facts, defs, tables, one Bool more -/
abbrev Al : Type := He.AlT × Bool
def obG (n : Nat) (fa : List He.Fa) (fn : List He.DefD) (ts : List He.Tab) (own : PySem.W.Frag → Bool) (g : Addr → Option Obj) : Al := (He.obsTG n fa fn ts g, own (He.frG g (He.asD g n)))
def Says (fa : List He.Fa) (fn : List He.DefD) (ts : List He.Tab) (own : PySem.W.Frag → Bool) (w : World) (K : PySem.W.Frag) : Prop := He.SaysT fa fn ts w K ∧ own K = true
def hook (n : Nat) (fa : List He.Fa) (fn : List He.DefD) (ts : List He.Tab) (own : PySem.W.Frag → Bool) : PySem.W.Hook where
  α := Al
  obs := fun s => obG n fa fn ts own s.heap.get?
  val := fun w => (He.valT fn ts w, true)
  says := fun w h => ∃ K : PySem.W.Frag, K.In h ∧ Says fa fn ts own w K
  of := fun _ _ e => ⟨_, He.frG_in, congrArg Prod.fst e, congrArg Prod.snd e⟩
  keeps := fun _ _ _ ⟨K, hK, c⟩ k => ⟨K, PySem.W.Frag.In.keeps hK k, c⟩
theorem obG_eq {n : Nat} {fa : List He.Fa} {fn : List He.DefD} {ts : List He.Tab} {own : PySem.W.Frag → Bool} {g : Addr → Option Obj} {s : Shared} (h : ∀ a, g a = s.heap.get? a) : obG n fa fn ts own g = (hook n fa fn ts own).obs s := by
  rw [show g = s.heap.get? from funext h] <;> rfl
/-- an own error class over ValueError with an own __init__ -/
def oexB (K : PySem.W.Frag) (C : Addr) : Bool := match K.lookup C with
  | some ⟨.type t, _, .cls ⟨_, _, .ref c :: bm, _, _, true, _, _, _, _, false⟩, sl⟩ => (decide (t = "type") && (decide (c = C) && PySem.HandSPX.refsVE bm)) && (match sl.toList with
    | [_, _, _, _, some (.builtin z), _] => decide (z = "ValueError.__new__")
    | _ => false)
  | _ => false
def clsB (K : PySem.W.Frag) (C : Addr) : Bool := oexB K C && (He.eqO (PySem.W.findIn K (.ref C) "__setattr__") (some (some (.builtin "object.__setattr__"))) && (decide (PySem.W.subIn K (.ref C) (.type "BaseException") = some true) &&
  (decide (PySem.W.typeIn K (.ref C) = some (.type "type")) && PySem.W.keepIn K (.ref C))))
theorem oexB_ok {K : PySem.W.Frag} {C : Addr} (h : clsB K C = true) : OexC K C := by
  obtain ⟨h1, h⟩ := He.ba h
  obtain ⟨h2, h⟩ := He.ba h
  obtain ⟨h3, h⟩ := He.ba h
  obtain ⟨h4, h5⟩ := He.ba h
  refine ⟨?_, He.eqO_ok h2, of_decide_eq_true h3, of_decide_eq_true h4, h5⟩
  unfold oexB at h1
  split at h1
  · rename_i t dd nm bs c bm N qn sn sub ab col sl e
    obtain ⟨q1, q2⟩ := He.ba h1
    obtain ⟨q3, q4⟩ := He.ba q1
    obtain ⟨q5, q6⟩ := He.ba q4
    have e1 := of_decide_eq_true q3
    have e2 := of_decide_eq_true q5
    subst e1 e2
    split at q2
    · rename_i k0 k1 k2 k3 z k5 es
      have e3 := of_decide_eq_true q2
      subst e3
      obtain ⟨sl⟩ := sl
      simp only at es
      subst es
      exact ⟨nm, qn, N, bs, bm, sn, sub, ab, col, dd, k0, k1, k2, k3, k5, e, q6⟩
    · cases q2
  · cases h1
/-- isinstance asks its instances rightly -/
def excB (K : PySem.W.Frag) (D : Addr) : Bool := L2.xfB K D && (He.eqO (PySem.W.findIn K (.ref D) "__class__") (some (some (.builtin "object.__class__"))) && (decide (PySem.W.mroIn K D (.type "object") = some true) && getB K))
where getB (K : PySem.W.Frag) : Bool := decide (PySem.W.specialIn K (.builtin "object.__class__") "__get__" = some (some (.builtin "getset_descriptor.__get__"))) && decide (PySem.W.takesIn K (.builtin "object.__class__") = some true)
theorem excB_ok {K : PySem.W.Frag} {D : Addr} (h : excB K D = true) : ExcC K D ∧ XfC K D := by
  obtain ⟨h1, h⟩ := He.ba h
  obtain ⟨h2, h⟩ := He.ba h
  obtain ⟨h3, h⟩ := He.ba h
  obtain ⟨h4, h5⟩ := He.ba h
  have x := L2.xfB_ok h1
  exact ⟨⟨x.ga, x.gg, x.exC, x.hdC, He.eqO_ok h2, of_decide_eq_true h4, of_decide_eq_true h5, of_decide_eq_true h3⟩, x⟩
/-- isinstance of an own class's instances -/
def insB (K : PySem.W.Frag) (D : Addr) : Bool := He.eqO (PySem.W.findIn K (.ref D) "__class__") (some (some (.builtin "object.__class__"))) && (decide (PySem.W.mroIn K D (.type "object") = some true) && excB.getB K)
end Hk

set_option Elab.async false
set_option linter.all false
set_option maxRecDepth 100000
set_option maxHeartbeats 4000000
namespace Lw
open PySem PySem.Spec PyProof.Rows L2
/-! an own error with an own __init__, made: its context is None -/
section
variable {X : Cx} {CX : CXT} {x : Str} {e : Expr} {es : List Expr} {ta : TA} {p pos : Pos} {C fI : Addr} {k : Nat} {fd : FuncData} {ps : List Str} {sp : Sp} {ds : List Value} {dvs : List V}
theorem pmk_oexN (T : OexC X.K C) (iC : PySem.W.findIn X.K (.ref C) "__init__" = some (some (.ref fI))) (tI : PySem.W.typeIn X.K (.ref fI) = some (.type "function")) (F1 : FnOk X.prog X.w X.K X.mg X.base CX k fI fd ps sp) (hr : Room (k + 1) X.A) (hb : Binds X.K fd ps ds)
    (hd : Vals dvs ds) (hx : Passes CX X (fun _ _ _ => False)) (hm : X.mg x = some (.ref C)) (ha : PA X (e :: es) ta) (hg : Gl X x := by rfl) (hdb : (x == ("__debug__" : Str)) = false := by decide) (he : starEach (e :: es) X.env = (false, eval e X.env) :: starEach es X.env := by rfl)
    (hpl : (backTo pos (starEach es X.env)).any (·.1) = false := by rfl) : L2N.PMk X (.Call (.Name x p) (e :: es) [] pos) (tMkO C sp dvs ta) := fun pins s σ H Q I h => by
  obtain ⟨nm, qn, N, bs, bm, sn, sub, ab, col, dd, k0, k1, k2, k3, k5, hC, hbm⟩ := T.cls
  refine wpAny_Call_Name_kw (ld_glob I hg hm (PySem.W.callWith_K (h₀ := X.base) I.ok.mod.kin T.kC (thn (ha.run pos pins s σ H _ I h) fun us st ⟨vs, H1, J, rv, hz, q1⟩ => ⟨J.kIn, ?_⟩) he hpl) hdb)
  show wpAny _ _ (call (.ref C) us) _ _ _
  obtain ⟨hp, g, dr, tk, os⟩ := st
  have up : hp.objs.size ≤ hp.objs.size + 1 := by omega
  have spec := q1 (hp.objs.size + 1) (J.hok.fresh up)
  have stay : ∀ b o, hp.get? b = some o → ((hp.push (PySem.W.kdv_tup us)).push (PySem.HandSPX.excO C hp.objs.size)).get? b = some o := fun b o z => Heap.get?_push_of_some _ (Heap.get?_push_of_some _ z)
  have there : ((hp.push (PySem.W.kdv_tup us)).push (PySem.HandSPX.excO C hp.objs.size)).get? (hp.objs.size + 1) = some (PySem.HandSPX.excO C hp.objs.size) := by heap_get
  have J2 := J.laid (t' := tk) (a := hp.objs.size + 1) (o := exo (hp.objs.size + 1) C none) (h' := (hp.push (PySem.W.kdv_tup us)).push (PySem.HandSPX.excO C hp.objs.size)) stay up (exo_ok there)
  have rel : Vals (V.ref (hp.objs.size + 1) :: (vs ++ dvs)) (Value.ref (hp.objs.size + 1) :: (us ++ ds)) := .cons rfl (rv.append hd)
  have len : (Value.ref (hp.objs.size + 1) :: us ++ ds).length = ps.length := (F1.len _ _ _ _ spec ▸ rel.length).symm
  have line : us.length ≤ sizeLine := by rw [← Paired.length rv, sizeLine_eq]; omega
  refine wpAny_call (PySem.HandSPX.call_own F.excBase_ValueError (fun Y => PySem.HandSPX.refsVE_contains Y bm hbm) (J.kIn _ _ hC) (PySem.W.looks_findIn J.kIn iC) (fun self => PySem.W.bind_fn J.kIn self tI) line
    (codeAny_mono (F1.run _ X.stack _ _ ⟨Value.ref (hp.objs.size + 1) :: us, []⟩ (Value.ref (hp.objs.size + 1) :: (us ++ ds)) _ _ (fun _ _ _ => False) (hr.make C us []) (J2.env0.make C us []) (hb _ (Value.ref (hp.objs.size + 1) :: us) J2.kIn len) rel spec) fun r s' back => ?_))
  match r, back with
  | .error er, back => exact hx pins σ _ _ er s' J2 back
  | .ok .next, back => exact back.elim
  | .ok .brk, back => exact back.elim
  | .ok .cont, back => exact back.elim
  | .ok (.ret u), back =>
    obtain ⟨v, H2, os2, bare2, un2, hok2, rv2, ev, d, fs, ea, ed, hd1, q2⟩ := back
    subst ev
    obtain ⟨h2, g2, d2, t2, os'⟩ := s'
    obtain ⟨t0, G, JG, kG, ge, hoe, na⟩ := mk_end0 (d2 := d2) (t2 := t2) J up stay un2 hok2 os2 bare2 ea ed hd1
    exact ⟨rv2, _, _, _, ⟨G, g2, d2, t2, os'⟩, _, .ref C, some d, rfl, JG, kG, ge, hoe, ⟨rfl, rfl, fun z ez => by cases ez; rfl⟩, rfl, rfl, na, rfl, bare2, raises_own T.exC T.tyC, q2⟩
/-! C(e, ..), C what a local name holds -/
def tMakeL (i : Nat) (C : Addr) (sp : Sp) (E : XK) (t : TA) : TE := fun σ H Q => σ[i]? = some (some (.ref C)) ∧ tMake C sp [] E t σ H Q
theorem pe_makeL {E : XK} {t : TA} {i f : Nat} (M : Mk X.K C f) (F : FnOk X.prog X.w X.K X.mg X.base CX k f fd ps sp) (hr : Room (k + 1) X.A) (hN : X.N[i]? = some x) (hv : Vis X.env.scope x) (hb : Binds X.K fd ps []) (hx : Passes CX X E) (ha : PA X (e :: es) t)
    (hdb : (x == ("__debug__" : Str)) = false := by decide) (hcd : (x == ("__classdict__" : Str)) = false := by decide) (he : starEach (e :: es) X.env = (false, eval e X.env) :: starEach es X.env := by rfl) (hpl : (backTo pos (starEach es X.env)).any (·.1) = false := by rfl) :
    PE X (.Call (.Name x p) (e :: es) [] pos) (tMakeL i C sp E t) := ⟨fun pins s σ H Q I ⟨hs, ht⟩ => by
  refine wpAny_Call_Name_kw (thn ((pe_var (pos := p) hN hv hdb hcd).run pins s σ H (fun v H1 => v = .ref C ∧ H1 = H) I ⟨.ref C, hs, rfl, rfl⟩) fun u s1 ⟨v, H1, J, r1, e1, e2⟩ => ?_)
  subst e1 e2
  obtain rfl : u = Value.ref C := r1
  exact PySem.W.callWith_K (h₀ := X.base) J.ok.mod.kin M.kp (thn (ha.run pos pins s1 σ H1 _ J ht) fun us s2 ⟨vs, H2, J2, r, q⟩ => ⟨J2.kIn, run_make M F hr hb .nil hx J2 r q⟩) he hpl⟩
/-! what a try's body lets out, whatever its slots are -/
def WL (X : Cx) (W : WX) : XK := fun cls d H => ∀ σ : L2.St, σ.length = X.N.length → W cls d σ H
theorem passL {W : WX} (tk : L2N.Takes X W) : Passes (L2N.CX X.prog X.w) X (WL X W) := fun pins σ H s u s' I c => by
  obtain ⟨a, B, H', cls, d, hu, fl, hok, ub, na, os, ag, hE⟩ := c
  exact tk u s' (L2N.XE.of_call (W := W) (E := fun c d H => W c d σ H) I (fun _ _ _ z => z) ⟨a, B, H', cls, d, hu, fl, hok, ub, na, os, ag, hE σ I.len⟩)
end
/-! a def called while an error is handled -/
theorem okH {CX : CXT} {P : Program} {w : World} {K : PySem.W.Frag} {mg : Str → Option Value} {base : Heap} {k : Nat} {x qual : Str} {params : Arguments} {bd : List Stmt} {scope : Scope} {dvs : List V} {kws : List (Str × V)} {f : Addr} {fd : FuncData} {N ps : List Str} {sp : Sp}
    (F : FunD K x qual params bd scope dvs kws f fd) (S : FnScope N ps scope) (len : ∀ vs H Q E, sp vs H Q E → vs.length = ps.length)
    (hb : ∀ (cdv : Value) (A : Around) (outer : List Env) (s : Shared) (H : Hp) (vs : List V) (Q : VK) (E : XK) (p : Addr × Obj), L2H.Hot1 A p → L2H.RoomH k (A.deeper (envOfC qual scope s.heap.objs.size f cdv)) → sp vs H Q E →
      ∃ t, PSs (L2H.cxH CX P w K mg base N qual scope f cdv A outer s H E p) bd t ∧ t { nx := fun _ H' => Q .non H', rt := Q } (start N vs) H) : L2H.FnH P w K mg base CX (k + 1) f fd ps sp := by
  obtain ⟨oc, od, dV, kV, doc, pm, an, cdv, ct, osl, rfl, lk, hcd, _, _⟩ := F.ex
  exact L2H.fn_ofH lk hcd S len fun A outer s H vs Q E p h1 h2 h3 => hb cdv A outer s H vs Q E p h1 h2 h3
end Lw

set_option Elab.async false
set_option linter.all false
set_option maxRecDepth 100000
set_option maxHeartbeats 4000000
namespace Lw
open PySem PySem.Spec PyProof.Rows L2
/-! the draws of the later laws: also out of very many -/
def spDrawW : Sp := fun vs H Q _ => ∃ (a : Addr) (n : Nat) (m : Int), vs = [.ref a, .int m] ∧ Src H a n ∧ n ≤ 1000000000 ∧ 0 < m ∧ m.natAbs < 2 ^ 200 ∧
  ∀ H' i, Keep a H H' → Src H' a (n + 1) → 0 ≤ i → i < m → Q (.int i) H'
theorem small_m {m : Int} (h : -1000000000000000000000 < m ∧ m < 1000000000000000000000) : m.natAbs < 2 ^ 200 := by omega
/-! a tuple that the module holds -/
def tupB (K : PySem.W.Frag) (a : Addr) (xs : List V) : Bool := match K.lookup a with
  | some ⟨.type t, _, .seq its _, _⟩ => decide (t = "tuple") && (decide (its.size ≤ 1000) && decide (its.toList.map absV = xs.map some))
  | _ => false
theorem rel_of_abs {x : V} {u : Value} (h : absV u = some x) : RelV x u := by
  unfold absV at h
  split at h <;> first | cases h | skip
  all_goals first | rfl | exact ⟨_, rfl⟩
theorem vals_of_abs : ∀ {us : List Value} {xs : List V}, us.map absV = xs.map some → Vals xs us
  | [], [], _ => .nil
  | u :: us, x :: xs, h => by
    simp only [List.map_cons, List.cons.injEq] at h
    exact .cons (rel_of_abs h.1) (vals_of_abs h.2)
  | [], _ :: _, h => by cases h
  | _ :: _, [], h => by cases h
theorem tupB_ok {K : PySem.W.Frag} {a : Addr} {xs : List V} {H : Hp} (h : tupB K a xs = true) : SqT K H a xs := by
  unfold tupB at h
  split at h
  · rename_i t d its n sl e
    obtain ⟨h1, h2⟩ := He.ba h
    obtain ⟨h3, h4⟩ := He.ba h2
    have e1 := of_decide_eq_true h1
    have e2 := of_decide_eq_true h3
    have hs : sizeLine = 16777216 := by decide
    subst e1
    exact .inr ⟨_, its, n, e, rfl, rfl, by omega, vals_of_abs (of_decide_eq_true h4)⟩
  · cases h
end Lw
namespace Lw
open PySem PySem.Spec PyProof.Rows L2
theorem it_bf {b : Bool} {A B : Prop} (h : b = false) (x : B) : if b = true then A else B := by
  rw [h, if_neg Bool.false_ne_true]; exact x
theorem it_bt {b : Bool} {A B : Prop} (h : b = true) (x : A) : if b = true then A else B := by
  rw [h, if_pos rfl]; exact x
theorem str_mem {z : Str} {ts : List Str} {A B : Prop} (h1 : z ∈ ts → A) (h2 : z ∉ ts → B) : if inV (.str z) (ts.map V.str) = true then A else B := by
  rw [inV_str]
  by_cases h : z ∈ ts
  · rw [decide_eq_true h, if_pos rfl]; exact h1 h
  · rw [decide_eq_false h, if_neg Bool.false_ne_true]; exact h2 h
theorem kb_rel {K : PySem.W.Frag} {x qual : Str} {params : Arguments} {body : List Stmt} {scope : Scope} {kws : List (Str × V)} {f : Addr} {fd : FuncData} {ps ks : List Str} {g : List Value → List Value} {gV : List V → List V} (F : FunD K x qual params body scope [] kws f fd) (hr : ∀ {zs us}, Vals zs us → Vals (gV zs) (g us))
    (h : ∀ (kV doc pm : Value) (an : Option Addr) (cdv ct : Value) (ws : List Value), ws.length = ks.length → bindArgs (PySem.W.fnOf x qual params body scope .none kV doc pm an cdv ct) ⟨[], ks.zip ws⟩ = pure (ps.zip (g ws))) : KBn K fd ps 0 ks (fun _ ws => g ws) (fun _ zs => gV zs) := by
  obtain ⟨oc, od, dV, kV, doc, pm, an, cdv, ct, osl, rfl, lk, hcd, hD, hK⟩ := F.ex
  rcases hD with ⟨_, rfl⟩ | ⟨e, _⟩
  · exact ⟨fun s us ws _ l1 l2 => by
      obtain rfl : us = [] := List.length_eq_zero_iff.mp l1
      exact .of_eq (h kV doc pm an cdv ct ws l2), fun _ r => hr r⟩
  · exact absurd rfl e
theorem pass0S {X : Cx} : ∀ σ : L2.St, PassesAt CX0 X σ ((fun _ => E0 : L2.St → XK) σ) := fun _ _ _ _ _ _ _ h => h.elim
theorem same_at {H G : Hp} {D : Addr} {o : HO} (n : H D = none) (s : Same H G) : Same H (upd G D o) := fun b u h => by
  rw [upd_ne (ne_of_none h n)]
  exact s b u h
theorem g_name {i : Nat} {v : V} {σ : L2.St} {H : Hp} {Q : L2.St → Hp → Prop} (h : Q (σ.set i (some v)) H) : gName i v σ H Q := h
theorem vals_rev : ∀ {vs : List V} {us : List Value}, Vals vs us → Vals vs.reverse us.reverse
  | _, _, .nil => .nil
  | _, _, .cons h r => by
    rw [List.reverse_cons, List.reverse_cons]
    exact Vals.append (vals_rev r) (.cons h .nil)
end Lw
namespace Lw
open PySem PySem.Spec PyProof.Rows L2
theorem cutV_ints (ns : List Int) (lo hi : Option Int) : ∃ ms : List Int, cutV (ns.map V.int) lo hi = ms.map V.int ∧ ms.length ≤ ns.length := by
  unfold cutV
  refine ⟨(ns.drop (HT.sIx (ns.map V.int).length 0 lo)).take (HT.sIx (ns.map V.int).length (ns.map V.int).length hi - HT.sIx (ns.map V.int).length 0 lo), ?_, ?_⟩
  · rw [List.map_take, List.map_drop]
  · rw [List.length_take, List.length_drop]; omega
theorem none_of_same {H G : Hp} (s : Same H G) {q : Addr} (h : G q = none) : H q = none := by
  cases e : H q with
  | none => rfl
  | some o => rw [s _ _ e] at h; cases h
theorem keep_at {a : Addr} {H G : Hp} {D : Addr} {o : HO} (n : H D = none) (s : Keep a H G) : Keep a H (upd G D o) := fun b u nb h => by
  rw [upd_ne (ne_of_none h n)]
  exact s b u nb h
/-! words, several and different -/
def cand1 (w : Str) (c : Nat) : Str := sign c ++ cutS w (some 1) none
def WInv (z : Str) (ts : List Str) (j : Nat) (y : Str) : Prop := IsWord y ∧ IsWord z ∧ y.cps.toList.drop 1 = z.cps.toList.drop 1 ∧ (y ∉ ts ∨ ∀ i c, i + 1 < j → abc[i]? = some c → cand1 z c ∈ ts) ∧ (y ∉ ts ∨ j = 0 ∨ ∃ c, abc[j - 1]? = some c ∧ y = cand1 z c)
theorem cand1_tl (w : Str) (c : Nat) : (cand1 w c).cps.toList = c :: w.cps.toList.drop 1 := by
  unfold cand1
  rw [tl_app, tl_sign]
  unfold cutS
  have h1 : HT.sIx w.length 0 (some 1) = min 1 w.length := HT.sIx_nat _ _ 1
  have h2 : HT.sIx w.length w.length none = w.length := rfl
  rw [h1, h2]
  have h3 : w.length = w.cps.toList.length := len_tl w
  show [c] ++ (List.take (w.length - min 1 w.length) (List.drop (min 1 w.length) w.cps.toList)) = _
  rw [h3]
  show c :: _ = _
  congr 1
  cases w.cps.toList with
  | nil => rfl
  | cons x r =>
    have e : min 1 (x :: r).length = 1 := by simp only [List.length_cons]; omega
    rw [e]
    simp
theorem WInv.word {z y : Str} {ts : List Str} {j : Nat} (h : WInv z ts j y) : IsWord y := h.1
theorem WInv.zero {z : Str} {ts : List Str} (h : IsWord z) : WInv z ts 0 z := ⟨h, h, rfl, .inr fun i c hi => absurd hi (by omega), .inr (.inl rfl)⟩
theorem WInv.stay {z y : Str} {ts : List Str} {j : Nat} (h : WInv z ts j y) (n : y ∉ ts) : WInv z ts (j + 1) y := ⟨h.1, h.2.1, h.2.2.1, .inl n, .inl n⟩
theorem cand1_inj {w : Str} {c d : Nat} (h : cand1 w c = cand1 w d) : c = d := by
  have e : (cand1 w c).cps.toList = (cand1 w d).cps.toList := by rw [h]
  rw [cand1_tl, cand1_tl] at e
  exact (List.cons.inj e).1
theorem cand1_eq {z y : Str} (e : y.cps.toList.drop 1 = z.cps.toList.drop 1) (c : Nat) : cand1 y c = cand1 z c := by
  have h : (cand1 y c).cps.toList = (cand1 z c).cps.toList := by rw [cand1_tl, cand1_tl, e]
  have h2 : (cand1 y c).cps = (cand1 z c).cps := Array.toList_inj.mp h
  cases h3 : cand1 y c
  cases h4 : cand1 z c
  rw [h3, h4] at h2
  cases h2
  rfl
theorem WInv.step {z y : Str} {ts : List Str} {j c : Nat} (h : WInv z ts j y) (hin : y ∈ ts) (hc : abc[j]? = some c) : WInv z ts (j + 1) (cand1 y c) := by
  obtain ⟨h1, h2, h3, h4, h5⟩ := h
  have t := cand1_tl y c
  refine ⟨?_, h2, by rw [t]; exact h3, .inr fun i d hi hd => ?_, .inr (.inr ⟨c, by simpa using hc, cand1_eq h3 c⟩)⟩
  · obtain ⟨w1, w2, w3⟩ := h1
    rw [len_tl] at w1 w2
    refine ⟨by rw [len_tl, t]; simp, ?_, fun x hx => ?_⟩
    · rw [len_tl, t, List.length_cons, List.length_drop]; omega
    · rw [t] at hx
      rcases List.mem_cons.mp hx with e | e
      · rw [e]; exact abc_le (List.mem_of_getElem? hc)
      · exact w3 x (List.mem_of_mem_drop e)
  · rcases Nat.lt_or_ge (i + 1) j with l | l
    · rcases h4 with h4 | h4
      · exact absurd hin h4
      · exact h4 i d l hd
    · have e : i = j - 1 := by omega
      rcases h5 with h5 | h5 | ⟨d2, e1, e2⟩
      · exact absurd hin h5
      · omega
      · rw [e] at hd
        rw [e1] at hd
        cases hd
        rw [← e2]
        exact hin
theorem WInv.done {z y : Str} {ts : List Str} (h : WInv z ts 26 y) (l : ts.length ≤ 24) : y ∉ ts := by
  obtain ⟨_, _, _, h4, _⟩ := h
  rcases h4 with h4 | h4
  · exact h4
  exfalso
  have hm : ∀ x ∈ (abc.take 25).map (cand1 z), x ∈ ts := fun x hx => by
    obtain ⟨c, hc, rfl⟩ := List.mem_map.mp hx
    obtain ⟨i, hi, e⟩ := List.mem_take_iff_getElem.mp hc
    refine h4 i c (by omega) ?_
    rw [← e]
    exact List.getElem?_eq_getElem _
  have nd : ((abc.take 25).map (cand1 z)).Nodup := by
    have h0 : (abc.take 25).Nodup := by decide
    exact List.Pairwise.map _ (fun a b ne q => ne (cand1_inj q)) h0
  have := nodup_le nd hm
  rw [List.length_map] at this
  have : (abc.take 25).length = 25 := rfl
  omega
def spWord2 (K : PySem.W.Frag) : Sp := fun vs H Q _ => ∃ (a b : Addr) (n : Nat) (ts : List Str), vs = [.ref a, .ref b] ∧ Src H a n ∧ n ≤ 900000000 ∧ b ≠ a ∧ SqL K H b (ts.map V.str) ∧ ts.length ≤ 24 ∧
  ∀ H' w, Keep a H H' → Src H' a (n + 10) → IsWord w → w ∉ ts → Q (.str w) H'
def GoodWs (ws ts : List Str) : Prop := ws.Nodup ∧ ∀ z ∈ ws, IsWord z ∧ z ∉ ts
theorem GoodWs.nil {ts : List Str} : GoodWs [] ts := ⟨List.nodup_nil, fun _ h => (List.not_mem_nil h).elim⟩
theorem GoodWs.snoc {ws ts : List Str} {z : Str} (h : GoodWs ws ts) (hz : IsWord z) (n : z ∉ ts ++ ws) : GoodWs (ws ++ [z]) ts := by
  have n1 : z ∉ ts := fun m => n (List.mem_append_left _ m)
  have n2 : z ∉ ws := fun m => n (List.mem_append_right _ m)
  refine ⟨List.nodup_append.mpr ⟨h.1, by simp, fun x hx y hy => ?_⟩, fun x hx => ?_⟩
  · rw [List.mem_singleton.mp hy]
    exact fun e => n2 (e ▸ hx)
  · rcases List.mem_append.mp hx with m | m
    · exact h.2 x m
    · rw [List.mem_singleton.mp m]; exact ⟨hz, n1⟩
def spWords (K : PySem.W.Frag) : Sp := fun vs H Q _ => ∃ (a b : Addr) (n : Nat) (m : Int) (ts : List Str), vs = [.ref a, .int m, .ref b] ∧ Src H a n ∧ n ≤ 800000000 ∧ b ≠ a ∧ H b = some (.lst (ts.map V.str)) ∧ ts.length ≤ 10 ∧ (0 ≤ m ∧ m ≤ 8) ∧
  ∀ l H' ws, H l = none → Keep a H H' → Src H' a (n + 80) → H' l = some (.lst (ws.map V.str)) → ws.length = m.toNat → GoodWs ws ts → Q (.ref l) H'
def spNumL : Sp := fun vs H Q _ => ∃ (a : Addr) (n : Nat) (m : Int), vs = [.ref a, .int m] ∧ Src H a n ∧ n ≤ 900000000 ∧ 0 < m ∧ m.natAbs < 2 ^ 198 ∧
  ∀ H' i, Keep a H H' → Src H' a (n + 2) → Q (.int i) H'
structure TxtQ (mg : Str → Option Value) : Prop where
  isi : mg "isinstance" = none
  int : mg "int" = none
  bool : mg "bool" = none
  list : mg "list" = none
  dict : mg "dict" = none
end Lw

set_option Elab.async false
set_option linter.all false
set_option maxRecDepth 100000
set_option maxHeartbeats 4000000
namespace Lk
open PySem PySem.Spec PyProof.Rows L2
/-! list(d.keys()) -/
def tListKeys (te : TE) : TE := fun σ H Q => te σ H fun x H1 => ∃ (d : Addr) (kvs : List (Key × V)), x = .ref d ∧ H1 d = some (.dK kvs) ∧ ∀ p, H1 p = none → Q (.ref p) (upd H1 p (.lst (kvs.map fun kv => kV kv.1)))
section
variable {X : Cx} {e : Expr} {te : TE} {p apos cpos pos : Pos}
theorem pe_listKeys (hc : X.calm = true) (he : PE X e te) (hg : Gl X "list") (hm : X.mg "list" = none) (hv : bootBuiltins "list" = some (.type "list")) (hbase : attributeBase e "keys" X.env (eval e X.env) = eval e X.env := by rfl) (hline : (apos.endLine == cpos.line) = true := by rfl)
    (hs : starEach [.Call (.Attribute e "keys" apos) [] [] cpos] X.env = (false, eval (.Call (.Attribute e "keys" apos) [] [] cpos) X.env) :: starEach [] X.env := by rfl) :
    PE X (.Call (.Name "list" p) [.Call (.Attribute e "keys" apos) [] [] cpos] [] pos) (tListKeys te) := by
  refine ⟨fun pins s σ H Q I hq => ?_⟩
  refine wpAny_Call_Name_kw (ld_blt I hg hm hv ?_)
  refine PyProof.Rows.callWith_type1 ?_ hs rfl
  rw [hs]
  show wpAny _ _ (spliced ((false, eval (.Call (.Attribute e "keys" apos) [] [] cpos) X.env) :: backTo pos (starEach [] X.env))) _ _ s
  refine Calls.spliced_cons ?_
  refine wpAny_Call_method (T := "dict") (id := "dict.keys") hbase rfl hline F.plainAttrs_dict F.slot_dict_keys F.type_dict_keys (thn (he.run pins s σ H _ I hq) fun u s1 ⟨x, H1, I1, rx, d, kvs, ex, hd, q⟩ => ?_)
  subst ex
  obtain rfl : u = Value.ref d := rx
  obtain ⟨hz, hs0, vs, kv, hdo⟩ := I1.hok d _ hd
  obtain ⟨ep, hat⟩ := hdo.dictAt
  have lk : kvs.length = vs.length := Paired.length kv
  have I2 : Inv X pins σ H1 { s1 with heap := s1.heap.push { cls := .type "dict_keys", data := .fields #[.ref d] } } := I1.kept (t' := s1.toks) fun b ob q => Heap.get?_push_of_some _ q
  have ek : (kvs.map fun kv => kV kv.1) = vs.map fun p => kV p.1 := by
    have e := congrArg (List.map kV) kv.keys
    rw [List.map_map, List.map_map] at e
    exact e
  refine ⟨hdo.typeIs, hdo.mapOf.noDict, ?_⟩
  show wpAny _ _ (callWith cpos (.builtin "dict.keys") [.ref d] [] []) _ X.xe s1
  refine method_meetsIn F.slot_dict_keys F.entry_dict_keys rfl (PySem.evalArgs_none ⟨rfl, hdo.typeIs, F.args_dict_keys_1 _, _, PySem.W.kdl_meets_keys (mixKind X.prog X.w) d hs0, ⟨vs, hdo⟩, ?_⟩)
  refine Calls.spliced_nil ?_
  refine PySem.W.kdl_call (PySem.W.kdl_keys (knd := mixKind X.prog X.w) (kvs := vs) (ep := ep)) (I1.ok.hd hc) ⟨⟨_, Heap.get?_push_size _ rfl, rfl, rfl⟩, hat.push _⟩ (by rw [← lk]; exact hz) fun h' tk acc c' hk hD hacc => ?_
  have hv2 : Vals (vs.map fun p => kV p.1) acc.toList := keys_at (by rw [Array.length_toList]; exact hacc.1) fun j v e => hacc.2 j v (by rw [← Array.getElem?_toList]; exact e)
  refine ⟨.ref _, upd H1 _ (.lst (kvs.map fun kv => kV kv.1)), I2.laid (t' := tk) hk (Nat.le_refl _)
    (show ObjOk X.prog X.w _ _ _ (.lst (kvs.map fun kv => kV kv.1)) from ⟨by rw [List.length_map]; exact hz, acc.toList, c', by rw [ek]; exact hv2, by rw [Array.toArray_toList]; exact hD⟩), rfl, q _ (I2.hok.fresh (Nat.le_refl _))⟩
end
end Lk
namespace Lw
open PySem PySem.Spec PyProof.Rows L2
/-! one order of texts only -/
theorem rising_all : ∀ (r : List Str) (p : Str), risingS p r = true → (∀ y ∈ r, p.cps.toList ≤ y.cps.toList) ∧ sortedS r = true
  | [], _, _ => ⟨fun _ h => (List.not_mem_nil h).elim, rfl⟩
  | x :: r, p, h => by
    unfold risingS at h
    rw [Bool.and_eq_true, Bool.not_eq_true', ltCps_eq] at h
    have h1 : ¬ x.cps.toList < p.cps.toList := of_decide_eq_false h.1
    have h2 : p.cps.toList ≤ x.cps.toList := List.not_lt.mp h1
    refine ⟨fun y hy => ?_, h.2⟩
    rcases List.mem_cons.mp hy with rfl | hy
    · exact h2
    · exact List.le_trans h2 ((rising_all r x h.2).1 y hy)
theorem str_ext {a b : Str} (h : a.cps.toList = b.cps.toList) : a = b := by
  have := Array.toList_inj.mp h
  cases a
  cases b
  cases this
  rfl
theorem sorted_one : ∀ {xs ys : List Str}, sortedS xs = true → sortedS ys = true → xs.Perm ys → xs = ys
  | [], ys, _, _, p => by rw [List.nil_perm.mp p]
  | x :: xs, [], _, _, p => by cases List.perm_nil.mp p
  | x :: xs, y :: ys, hx, hy, p => by
    obtain ⟨a1, a2⟩ := rising_all xs x hx
    obtain ⟨b1, b2⟩ := rising_all ys y hy
    have e : x = y := by
      rcases List.mem_cons.mp (p.mem_iff.mp List.mem_cons_self) with e | e
      · exact e
      rcases List.mem_cons.mp (p.mem_iff.mpr (List.mem_cons_self (a := y))) with e2 | e2
      · exact e2.symm
      exact str_ext (List.le_antisymm (a1 y e2) (b1 x e))
    subst e
    rw [sorted_one a2 b2 (List.Perm.cons_inv p)]
end Lw

set_option Elab.async false
set_option linter.all false
set_option maxRecDepth 100000
set_option maxHeartbeats 0
namespace Hc
open PySem PySem.Spec PyProof.Rows L2
/-! a Hook: facts, defs wherever they stand, one Bool more -/
abbrev Al : Type := He.AlD × Bool
def obG (n : Nat) (fa : List He.Fa) (fn : List He5.DefA) (own : PySem.W.Frag → Bool) (g : Addr → Option Obj) : Al := (He5.obsAG n fa fn g, own (He.frG g (He5.asA g n)))
def Says (fa : List He.Fa) (fn : List He5.DefA) (own : PySem.W.Frag → Bool) (K : PySem.W.Frag) : Prop := He5.SaysA fa fn K ∧ own K = true
def hook (n : Nat) (fa : List He.Fa) (fn : List He5.DefA) (own : PySem.W.Frag → Bool) : PySem.W.Hook where
  α := Al
  obs := fun s => obG n fa fn own s.heap.get?
  val := fun _ => (He5.valA fn, true)
  says := fun _ h => ∃ K : PySem.W.Frag, K.In h ∧ Says fa fn own K
  of := fun _ _ e => ⟨_, He.frG_in, congrArg Prod.fst e, congrArg Prod.snd e⟩
  keeps := fun _ _ _ ⟨K, hK, c⟩ k => ⟨K, PySem.W.Frag.In.keeps hK k, c⟩
theorem obG_eq {n : Nat} {fa : List He.Fa} {fn : List He5.DefA} {own : PySem.W.Frag → Bool} {g : Addr → Option Obj} {s : Shared} (h : ∀ a, g a = s.heap.get? a) : obG n fa fn own g = (hook n fa fn own).obs s := by
  rw [show g = s.heap.get? from funext h] <;> rfl
theorem Says.fact {fa : List He.Fa} {fn : List He5.DefA} {own : PySem.W.Frag → Bool} {K : PySem.W.Frag} (c : Says fa fn own K) {f : He.Fa} (hf : f ∈ fa) : f.ok K = true := by
  obtain ⟨i, hi⟩ := List.getElem?_of_mem hf
  exact c.1.fact i hi
/-- a class's constants -/
def cvS (K : PySem.W.Frag) (C : Addr) (f z : Str) : Bool := match PySem.W.findCls K (.ref C) (.type "type") f with
  | some (.val (.str y _)) => decide (y = z)
  | _ => false
def cvI (K : PySem.W.Frag) (C : Addr) (f : Str) (i : Int) : Bool := match PySem.W.findCls K (.ref C) (.type "type") f with
  | some (.val (.int y _)) => decide (y = i)
  | _ => false
theorem cvS_ok {K : PySem.W.Frag} {C : Addr} {f z : Str} (h : cvS K C f z = true) : ∃ u, ClX.CVal K C (.type "type") f (.str z) u := by
  unfold cvS at h
  split at h
  · rename_i y t e
    exact ⟨_, e, t, by rw [of_decide_eq_true h]⟩
  · cases h
theorem cvI_ok {K : PySem.W.Frag} {C : Addr} {f : Str} {i : Int} (h : cvI K C f i = true) : ∃ u, ClX.CVal K C (.type "type") f (.int i) u := by
  unfold cvI at h
  split at h
  · rename_i y t e
    exact ⟨_, e, t, by rw [of_decide_eq_true h]⟩
  · cases h
def crB (K : PySem.W.Frag) (C : Addr) : Bool := PySem.W.readsIn K C (.type "type") && He.eqO (PySem.W.specialIn K (.ref C) "__getattribute__") (some (some (.builtin "type.__getattribute__")))
theorem crB_ok {K : PySem.W.Frag} {C : Addr} (h : crB K C = true) : ClX.CRead K C (.type "type") := ⟨(He.ba h).1, He.eqO_ok (He.ba h).2⟩
end Hc
namespace Lw
open PySem PySem.Spec PyProof.Rows L2
def dG (x : Str) (st : Stmt) : He5.DefA := ⟨fun K => He.ga K x, x, x, defArgs st, defBody st, defScope st, [], []⟩
def dM (C m q : Str) (st : Stmt) (kwd : List (Str × He.Dv) := []) : He5.DefA := ⟨fun K => He.ma K (He.ga K C) m, m, q, defArgs st, defBody st, defScope st, [], kwd⟩
end Lw

set_option Elab.async false
set_option linter.all false
set_option maxRecDepth 100000
set_option maxHeartbeats 4000000
namespace Lw
open PySem PySem.Spec PyProof.Rows L2
/-! an expression that may be read in two ways -/
theorem pe_or {X : Cx} {e : Expr} {t1 t2 : TE} (h1 : PE X e t1) (h2 : PE X e t2) : PE X e (fun σ H Q => t1 σ H Q ∨ t2 σ H Q) := ⟨fun pins s σ H Q I h => h.elim (h1.run pins s σ H Q I) (h2.run pins s σ H Q I)⟩
theorem kb1 {K : PySem.W.Frag} {x qual : Str} {params : Arguments} {body : List Stmt} {scope : Scope} {kws : List (Str × V)} {f : Addr} {fd : FuncData} {ps ks : List Str} {g : List Value → List Value} {gV : List V → List V} (F : FunD K x qual params body scope [] kws f fd) (hr : ∀ {zs us}, Vals zs us → Vals (gV zs) (g us))
    (h : ∀ (kV doc pm : Value) (an : Option Addr) (cdv ct : Value) (u : Value) (ws : List Value), ws.length = ks.length → bindArgs (PySem.W.fnOf x qual params body scope .none kV doc pm an cdv ct) ⟨[u], ks.zip ws⟩ = pure (ps.zip (u :: g ws))) : KBn K fd ps 1 ks (fun us ws => us ++ g ws) (fun vs zs => vs ++ gV zs) := by
  obtain ⟨oc, od, dV, kV, doc, pm, an, cdv, ct, osl, rfl, lk, hcd, hD, hK⟩ := F.ex
  rcases hD with ⟨_, rfl⟩ | ⟨e, _⟩
  · exact ⟨fun s us ws _ l1 l2 => by
      match us, l1 with
      | [u], _ => exact .of_eq (h kV doc pm an cdv ct u ws l2), fun r q => r.append (hr q)⟩
  · exact absurd rfl e
/-! properties of the text's classes -/
def propB (K : PySem.W.Frag) (C : Addr) (m : Str) : Bool := He.eqO (PySem.W.findIn K (.ref C) m) (some (some (.ref (He.ma K C m)))) && (He.eqO (PySem.W.specialIn K (.ref (He.ma K C m)) "__get__") (some (some (.builtin "property.__get__"))) &&
  (decide (PySem.W.takesIn K (.ref (He.ma K C m)) = some true) && (match PySem.W.recIn K (He.ma K C m) "property" with
    | some (.ref _ :: _) => true
    | _ => false)))
theorem propB_ok {K : PySem.W.Frag} {C : Addr} {m : Str} (h : propB K C m = true) : PropOf K C m (He.ma K C m) (He5.wf K C "property" m) := by
  obtain ⟨h1, h⟩ := He.ba h
  obtain ⟨h2, h⟩ := He.ba h
  obtain ⟨h3, h4⟩ := He.ba h
  refine ⟨He.eqO_ok h1, He.eqO_ok h2, of_decide_eq_true h3, ?_⟩
  unfold He5.wf
  split at h4
  · rename_i f r e
    rw [e]
    exact ⟨r, rfl⟩
  · cases h4
def conB (K : PySem.W.Frag) (C : Addr) (f z : Str) : Bool := match PySem.W.findIn K (.ref C) f with
  | some (some (.str y t)) => decide (y = z) && He.eqO (PySem.W.specialIn K (.str y t) "__get__") (some none)
  | _ => false
theorem conB_ok {K : PySem.W.Frag} {C : Addr} {f z : Str} (h : conB K C f z = true) (hc : PySem.W.copiedNames.contains f = false) : ∃ u, Con K C f (.str z) u := by
  unfold conB at h
  split at h
  · rename_i y t e
    obtain ⟨h1, h2⟩ := He.ba h
    have e1 := of_decide_eq_true h1
    subst e1
    exact ⟨_, e, ⟨_, rfl⟩, He.eqO_ok h2, hc⟩
  · cases h
def dP (C m q : Str) (st : Stmt) : He5.DefA := ⟨fun K => He5.wf K (He.ga K C) "property" m, m, q, defArgs st, defBody st, defScope st, [], []⟩
/-! cells: names with integers or None -/
def IntN (v : V) : Prop := (∃ i : Int, v = .int i) ∨ v = .non
def RowOk (kvs : List (Key × V)) : Prop := (∃ ks : List Str, kvs.map (·.1) = ks.map Sum.inr ∧ ks.Nodup ∧ ∀ z ∈ ks, IsWord z) ∧ (∀ p ∈ kvs, IntN p.2) ∧ kvs.length ≤ 60
theorem IntN.flat {v : V} (h : IntN v) : flatB v = true := by
  rcases h with ⟨i, rfl⟩ | rfl <;> rfl
theorem RowOk.nodup {kvs : List (Key × V)} (h : RowOk kvs) : (kvs.map (·.1)).Nodup := by
  obtain ⟨⟨ks, e, n, _⟩, _⟩ := h
  rw [e]
  exact List.Pairwise.map _ (fun a b ne q => ne (Sum.inr.inj q)) n
theorem valV_mem : ∀ {kvs : List (Key × V)}, (kvs.map (·.1)).Nodup → ∀ p ∈ kvs, valV kvs p.1 = some p.2
  | [], _, _, h => by cases h
  | (k, v) :: r, n, p, h => by
    rw [List.map_cons, List.nodup_cons] at n
    rcases List.mem_cons.mp h with rfl | h
    · show valV ((k, v) :: r) k = some v
      unfold valV
      simp
    · have ne : p.1 ≠ k := fun e => n.1 (by rw [← e]; exact List.mem_map.mpr ⟨p, h, rfl⟩)
      have ih := valV_mem n.2 p h
      have hd : decide (k = p.1) = false := decide_eq_false fun e => ne e.symm
      show ((List.find? (fun kv => decide (kv.1 = p.1)) ((k, v) :: r)).map (·.2)) = some p.2
      rw [List.find?_cons]
      simp only [hd]
      exact ih
theorem depth_strs : ∀ ks : List Str, PyData.depthAll (ks.map PyData.str) = 0
  | [] => rfl
  | z :: r => by
    show max (PyData.depth (.str z)) (PyData.depthAll (r.map PyData.str)) = 0
    rw [depth_strs r]
    rfl
theorem canLay_strs : ∀ ks : List Str, (∀ z ∈ ks, IsWord z) → PyData.canLayAll0 (ks.map PyData.str) = true
  | [], _ => rfl
  | z :: r, h => by
    show (PyData.canLay0 (.str z) && PyData.canLayAll0 (r.map PyData.str)) = true
    rw [canLay_strs r fun y hy => h y (List.mem_cons_of_mem _ hy)]
    have h3 : PyData.canLay0 (.str z) = true := by
      show z.cps.all (· < 0x110000) = true
      rw [← Array.all_toList, List.all_eq_true]
      intro c hc
      have := (h z List.mem_cons_self).2.2 c hc
      exact decide_eq_true (by omega)
    rw [h3]
    rfl
theorem shaped_strs (ks : List Str) (h : ∀ z ∈ ks, IsWord z) : SeqAt.shaped (.list (ks.map PyData.str)) = true := by
  have e1 : PyData.canLay0 (.list (ks.map PyData.str)) = true := canLay_strs ks h
  have e2 : PyData.depth (.list (ks.map PyData.str)) ≤ 64 := by
    have e3 := depth_strs ks
    simp only [PyData.depth, e3]
    decide
  unfold SeqAt.shaped
  rw [e1, decide_eq_true e2]
  rfl
theorem eqv_strs {ks : List Str} (h : ∀ z ∈ ks, IsWord z) : PyData.eqv (.list (ks.map PyData.str)) (.list (ks.map PyData.str)) = true := PySem.SeqAt.eqv_refl _ (canLay_strs ks h)
theorem scalN {v : V} (h : IntN v) : scal v v = true := by
  rcases h with ⟨i, rfl⟩ | rfl <;> rfl
theorem src_ne_strs {H : Hp} {a l : Addr} {n : Nat} {ws : List Str} (hs : Src H a n) (hl : H l = some (.lst (ws.map V.str))) : l ≠ a := fun z => by
  obtain ⟨_, _, _, h, _⟩ := hs
  subst z
  rw [hl] at h
  have e := HO.lst.inj (Option.some.inj h)
  cases ws with
  | nil => cases e
  | cons z r => cases e
theorem str_it {a b : Str} {A B : Prop} (h1 : a = b → A) (h2 : a ≠ b → B) : if decide (V.str a = V.str b) = true then A else B := by
  by_cases e : a = b
  · rw [if_pos (by rw [decide_eq_true_eq, e])]; exact h1 e
  · rw [if_neg (by rw [decide_eq_true_eq]; exact fun z => e (V.str.inj z))]; exact h2 e
theorem dec_str {a b : Str} : decide (V.str a = V.str b) = decide (a = b) := by
  by_cases e : a = b
  · rw [decide_eq_true e, decide_eq_true (by rw [e])]
  · rw [decide_eq_false e, decide_eq_false fun z => e (V.str.inj z)]
/-- both branches come to R -/
theorem sq_ifj {c : TT} {t1 t2 u : TS} {D : Ends} {σ : L2.St} {H : Hp} (P : Bool → Hp → Prop) (R : Hp → Prop) (h : ∀ Q : Bool → Hp → Prop, (∀ b H', P b H' → Q b H') → c σ H Q) (kt : ∀ H', P true H' → ∀ D' : Ends, (∀ G, R G → D'.nx σ G) → t1 D' σ H') (kf : ∀ H', P false H' → ∀ D' : Ends, (∀ G, R G → D'.nx σ G) → t2 D' σ H')
    (k : ∀ G, R G → u D σ G) : tSeq (tIfS c t1 t2) u D σ H :=
  h _ fun b H' p => by
    cases b with
    | true => rw [if_pos rfl]; exact kt H' p _ k
    | false => rw [if_neg Bool.false_ne_true]; exact kf H' p _ k
theorem s1_do {te : TE} {D : Ends} {σ : L2.St} {H : Hp} (P : V → Hp → Prop) (h : ∀ Q : VK, (∀ x H', P x H' → Q x H') → te σ H Q) (k : ∀ x H', P x H' → D.nx σ H') : (tDrop te) D σ H := h _ k
theorem putK_new {kvs : List (Key × V)} {k : Key} {v : V} (h : k ∉ kvs.map (·.1)) : putK kvs k v = kvs ++ [(k, v)] := by
  unfold putK
  rw [if_neg]
  intro e
  obtain ⟨p, hp, e2⟩ := List.any_eq_true.mp e
  exact h (List.mem_map.mpr ⟨p, hp, of_decide_eq_true e2⟩)
theorem RowOk.snoc {kvs : List (Key × V)} {z : Str} {v : V} (h : RowOk kvs) (n : (Sum.inr z : Key) ∉ kvs.map (·.1)) (hz : IsWord z) (hv : IntN v) (l : kvs.length < 60) : RowOk (kvs ++ [(.inr z, v)]) := by
  obtain ⟨⟨ks, e, nd, w⟩, i, _⟩ := h
  refine ⟨⟨ks ++ [z], by rw [List.map_append, List.map_append, e]; rfl, ?_, fun y hy => ?_⟩, fun p hp => ?_, by rw [List.length_append]; show kvs.length + 1 ≤ 60; omega⟩
  · refine List.nodup_append.mpr ⟨nd, by simp, fun x hx y hy => ?_⟩
    rw [List.mem_singleton.mp hy]
    rintro rfl
    exact n (by rw [e]; exact List.mem_map.mpr ⟨x, hx, rfl⟩)
  · rcases List.mem_append.mp hy with m | m
    · exact w y m
    · rw [List.mem_singleton.mp m]; exact hz
  · rcases List.mem_append.mp hp with m | m
    · exact i p m
    · rw [List.mem_singleton.mp m]; exact hv
theorem RowOk.nil : RowOk [] := ⟨⟨[], rfl, List.nodup_nil, fun _ h => (List.not_mem_nil h).elim⟩, fun _ h => (List.not_mem_nil h).elim, Nat.zero_le _⟩
theorem mergeK_new : ∀ (more kvs : List (Key × V)), ((kvs ++ more).map (·.1)).Nodup → mergeK kvs more = kvs ++ more
  | [], kvs, _ => by rw [List.append_nil]; rfl
  | p :: r, kvs, h => by
    have h2 : ((kvs ++ [p]) ++ r) = kvs ++ p :: r := by simp
    have n : p.1 ∉ kvs.map (·.1) := fun m => by
      rw [List.map_append, List.map_cons] at h
      exact (List.nodup_append.mp h).2.2 p.1 m p.1 List.mem_cons_self rfl
    show mergeK (putK kvs p.1 p.2) r = _
    rw [putK_new n, ← h2]
    exact mergeK_new r (kvs ++ [p]) (by rw [h2]; exact h)
theorem RowOk.rev {kvs : List (Key × V)} (h : RowOk kvs) : RowOk kvs.reverse := by
  obtain ⟨⟨ks, e, n, w⟩, i, l⟩ := h
  refine ⟨⟨ks.reverse, by rw [List.map_reverse, e, List.map_reverse], List.Perm.nodup (List.reverse_perm ks).symm n, fun z hz => w z (List.mem_reverse.mp hz)⟩, fun p hp => i p (List.mem_reverse.mp hp), by rw [List.length_reverse]; exact l⟩
end Lw

set_option Elab.async false
set_option linter.all false
set_option maxRecDepth 100000
set_option maxHeartbeats 2000000
namespace Mk
open PySem PySem.Spec PyProof.Rows L2
/-! o.m(e, .., k = v, ..): some by place, the others by name -/
section
variable {X : Cx} {CX : CXT} {k n : Nat} {C f : Addr} {fd : FuncData} {ps ks : List PySem.Str} {sp : Sp} {E : XK} {o e : Expr} {es : List Expr} {kws : List Keyword} {m : PySem.Str} {pos apos : Pos} {ta : TE} {t tk : TA} {pl : Sem Bool} {g : List Value → List Value → List Value} {gV : List V → List V → List V}
def tMethK (C : Addr) (m : PySem.Str) (n l : Nat) (sp : Sp) (gV : List V → List V → List V) (E : XK) (ta : TE) (t tk : TA) : TE := fun σ H Q => ta σ H fun x G => ∃ (a dx : Addr) (fs : List (PySem.Str × V)), x = .ref a ∧ G a = some (.ins C dx fs) ∧ fs.lookup m = none ∧ t σ G fun ys G1 => ys.length + 1 = n ∧ tk σ G1 fun zs G2 => zs.length = l ∧ sp (gV (.ref a :: ys) zs) G2 Q E
theorem pe_methK (he : PE X o ta) (c : Cls X.K C) (hm : Meth X.K C m f) (F : FnOk X.prog X.w X.K X.mg X.base CX k f fd ps sp) (hr : Room k X.A) (hb : KBn X.K fd ps n ks g gV) (hx : Passes CX X E) (ha : PA X (e :: es) t) (hkw : PK X kws tk)
    (hall : (backToKw pos (keywordEach kws X.env)).all (·.1.isSome) = true := by rfl) (hks : (backToKw pos (keywordEach kws X.env)).filterMap (·.1) = ks := by rfl)
    (hpl : ((backTo pos (starEach (e :: es) X.env)).any (·.1) || (backToKw pos (keywordEach kws X.env)).any (·.1.isNone)) = false := by rfl) (hs : starEach (e :: es) X.env = (false, eval e X.env) :: starEach es X.env := by rfl)
    (ht : eval (.Call (.Attribute o m apos) (e :: es) kws pos) X.env = (do
      let a ← eval o X.env
      standAt apos.atName
      let (f, first) ← holding [a] (getMethod a m pl)
      callWith pos f first (backTo pos (starEach (e :: es) X.env)) (backToKw pos (keywordEach kws X.env))) := by rfl) :
    PE X (.Call (.Attribute o m apos) (e :: es) kws pos) (tMethK C m n ks.length sp gV E ta t tk) := by
  constructor
  intro pins s σ H Q I h
  refine PySem.W.methodCall_KW (pl := pl) (thn (he.run pins s σ H _ I h) ?_) ht
  rintro u s1 ⟨x, G, I1, rx, a, dx, fs, rfl, ea, l, q⟩
  obtain rfl : u = Value.ref a := rx
  refine getmeth_ok I1 ea c hm l ?_
  refine PySem.W.callWith_KW (first := [.ref a]) (h₀ := X.base) I1.ok.mod.kin hm.kp hall (thn (ha.run pos pins s1 σ G _ I1 q) ?_) hpl hs
  rintro us s2 ⟨ys, G1, I2, ry, l1, q1⟩
  refine thn (hkw.run pos pins s2 σ G1 _ I2 q1) ?_
  rintro ws s3 ⟨zs, G2, I3, rz, l2, q2⟩
  refine ⟨I3.kIn, ?_⟩
  rw [hks]
  have all : Vals (V.ref a :: ys) (Value.ref a :: us) := .cons (show RelV (.ref a) (Value.ref a) from rfl) ry
  have r2 := hb.rel all rz
  have bt := hb.to s3 (Value.ref a :: us) ws I3.kIn (by rw [List.length_cons, ← ry.length]; exact l1) (rz.length.symm.trans l2)
  refine wpAny_call (codeAny_mono (F.run X.A X.stack s3 G2 ⟨Value.ref a :: us, ks.zip ws⟩ (g (Value.ref a :: us) ws) (gV (V.ref a :: ys) zs) Q E hr I3.env0 bt r2 q2) ?_)
  intro r s' hq
  match r, hq with
  | .error e, hq => exact hx pins σ G2 s3 e s' I3 hq
  | .ok (.ret u), hq => exact I3.after hq
  | .ok .next, hq => exact hq.elim
  | .ok .brk, hq => exact hq.elim
  | .ok .cont, hq => exact hq.elim
/-- what is never reached -/
theorem ps_nev {X : Cx} {st : Stmt} : PS X st (fun _ _ _ => False) := ⟨fun _ _ _ _ _ _ h => h.elim⟩
end
end Mk

set_option Elab.async false
set_option linter.all false
set_option maxRecDepth 100000
set_option maxHeartbeats 4000000
namespace Iw
open PySem PySem.Spec PyProof.Rows L2 PySem.SeqAt
/-! any plain value in a list or a tuple of texts -/
section
variable {A : Around} {s : Shared}
theorem str_no {z : Str} {u : Tok} {d : Addr} {es : Array DictEntry} {ep : Nat} {dd : Option Addr} {sl : Array (Option Value)} : Meets (Builtin.«str.__eq__» ⟨[.str z u, .ref d], []⟩) (fun _ R s => s.heap.get? d = some ⟨.type "dict", dd, .dict es ep, sl⟩ ∧ R (.ok (.ret .notImplemented)) s) :=
  .of_wp fun prog w A R s h => by
    obtain ⟨hp, g, dr, tk, os⟩ := s
    obtain ⟨there, h⟩ := h
    have no := F.sub_dict_str
    wp_walk using wpAny_loadPart' there, wpAny_load there
    exact ⟨_, rfl, h⟩
theorem dict_no {z : Str} {u : Tok} {d : Addr} {es : Array DictEntry} {ep : Nat} {dd : Option Addr} {sl : Array (Option Value)} : Meets (Builtin.«dict.__eq__» ⟨[.ref d, .str z u], []⟩) (fun _ R s => s.heap.get? d = some ⟨.type "dict", dd, .dict es ep, sl⟩ ∧ R (.ok (.ret .notImplemented)) s) :=
  .of_wp fun prog w A R s h => by
    obtain ⟨hp, g, dr, tk, os⟩ := s
    obtain ⟨there, h⟩ := h
    have no := F.sub_str_dict
    wp_walk using wpAny_loadPart' there, wpAny_load there
    exact ⟨_, rfl, h⟩
theorem str_dict {z : Str} {u : Tok} {d : Addr} {es : Array DictEntry} {ep : Nat} {dd : Option Addr} {sl : Array (Option Value)} (there : s.heap.get? d = some ⟨.type "dict", dd, .dict es ep, sl⟩) (room : A.units < cLine) : EqAt A s (.str z u) (.ref d) false := fun prog w E Q h => by
  unfold eqBool
  refine wpAny_holding (wpAny_ite_split (fun e => absurd (eq_of_beq e) nofun) fun _ => wpAny_bind ?_)
  exact rc_eq_decline_or (k := false) (typeIs_str s z u) ⟨_, there, rfl⟩ (by decide) F.sub_dict_str F.slot_str_eq F.slot_dict_eq_refl
    (fun _ q => call_meets F.slot_str_eq (typeIs_str s z u) F.entry_str_eq (F.args_str_eq_2 _ _) str_no ⟨there, q⟩)
    (fun _ q => call_meets F.slot_dict_eq_refl ⟨_, there, rfl⟩ F.entry_dict_eq (F.args_dict_eq_2 _ _) dict_no ⟨there, q⟩)
    (fun _ q => wpAny_of_eq (rfl : isSame (.str z u) (.ref d) = pure false) q) (.inr room) (wpAny_truthy_bool h)
end
end Iw
namespace Iw
open PySem PySem.Spec PyProof.Rows L2 PySem.SeqAt
section
variable {X : Cx}
/-- a list, a tuple, a dict -/
inductive Box (H : Hp) (a : Addr) : Prop where
  | lst {xs : List V} (h : H a = some (.lst xs)) : Box H a
  | tup {xs : List V} (h : H a = some (.tup xs)) : Box H a
  | dic {kvs : List (Key × V)} (h : H a = some (.dK kvs)) : Box H a
def rInW (K : PySem.W.Frag) (neg : Bool) : R2 := fun x y H Q => ∃ (p : Addr) (ts : List Str), y = .ref p ∧ (SqL K H p (ts.map V.str) ∨ SqT K H p (ts.map V.str)) ∧
  ((flatV x = true ∧ Q (.bl (if neg then !inV x (ts.map V.str) else inV x (ts.map V.str))) H) ∨ (∃ a, x = .ref a ∧ Box H a ∧ Q (.bl neg) H))
theorem box_eq {pins : List (Addr × Obj)} {σ : L2.St} {H : Hp} {s : Shared} (I : Inv X pins σ H s) {B : Around} (room : B.units < cLine) {a : Addr} (b : Box H a) (z : Str) (u : Tok) : EqAt B s (.str z u) (.ref a) false := by
  cases b with
  | lst h =>
    obtain ⟨its, rv, pl, hz⟩ := I.list (SqL.of h)
    exact EqAt.str_list z u pl.isList room
  | tup h =>
    obtain ⟨its, rv, pt, hz⟩ := I.tuple (SqT.of h)
    exact EqAt.str_tuple z u pt room
  | dic h =>
    obtain ⟨hz, hs0, vs, kv, o, es, ep, there, ex, da, _⟩ := I.hok a _ h
    obtain ⟨c, dd, d0, sl⟩ := o
    obtain ⟨e1, e2, e3⟩ := ex
    simp only at e1 da
    subst e1 da
    exact str_dict there room
theorem texts_no {pins : List (Addr × Obj)} {σ : L2.St} {H : Hp} {s : Shared} (I : Inv X pins σ H s) {B : Around} (room : B.units < cLine) {a : Addr} (b : Box H a) : ∀ {ts : List Str} {us : List Value}, Vals (ts.map V.str) us → ∀ v ∈ us, EqAt B s v (.ref a) ((fun _ => false) v)
  | [], _, .nil => fun v hv => by cases hv
  | z :: ts, u :: us, .cons r t => fun v hv => by
    rcases List.mem_cons.mp hv with rfl | hv
    · obtain ⟨k, rfl⟩ := r
      exact box_eq I room b z k
    · exact texts_no I room b t v hv
theorem op_inW (hu : X.A.units + 64 < cLine) : OpR X (compareOp .In) (rInW X.K false) := by
  intro pins s σ H x y v u Q I rx ry ⟨p, ts, e, hq, h⟩
  rcases h with ⟨fx, q⟩ | ⟨a, rfl, b, q⟩
  · exact op_in_seq pins s σ H x y v u Q I rx ry ⟨p, _, e, hq, fx, Lw.flat_strs ts, q⟩
  · subst e
    cases ry
    cases rx
    rcases hq with hq | hq
    · obtain ⟨its, r, pl, hz⟩ := I.list hq
      refine SeqAt.in_listAt (fun _ => false) pl.isList (fun w hw => texts_no I (by show X.A.units + 1 < cLine; omega) b r w (by simpa using hw)) ⟨.bl _, H, I, rfl, ?_⟩
      rw [show its.toArray.any (fun _ => false) = false by simp]
      exact q
    · obtain ⟨its, r, pl, hz⟩ := I.tuple hq
      refine SeqAt.in_tupleAt (fun _ => false) pl (fun w hw => texts_no I (by show X.A.units + 1 < cLine; omega) b r w (by simpa using hw)) ⟨.bl _, H, I, rfl, ?_⟩
      rw [show its.toArray.any (fun _ => false) = false by simp]
      exact q
theorem op_notInW (hu : X.A.units + 64 < cLine) : OpR X (compareOp .NotIn) (rInW X.K true) := by
  intro pins s σ H x y v u Q I rx ry ⟨p, ts, e, hq, h⟩
  rcases h with ⟨fx, q⟩ | ⟨a, rfl, b, q⟩
  · exact op_notIn_seq pins s σ H x y v u Q I rx ry ⟨p, _, e, hq, fx, Lw.flat_strs ts, q⟩
  · subst e
    cases ry
    cases rx
    rcases hq with hq | hq
    · obtain ⟨its, r, pl, hz⟩ := I.list hq
      refine SeqAt.notIn_listAt (fun _ => false) pl.isList (fun w hw => texts_no I (by show X.A.units + 1 < cLine; omega) b r w (by simpa using hw)) ⟨.bl _, H, I, rfl, ?_⟩
      rw [show its.toArray.any (fun _ => false) = false by simp]
      exact q
    · obtain ⟨its, r, pl, hz⟩ := I.tuple hq
      refine SeqAt.notIn_tupleAt (fun _ => false) pl (fun w hw => texts_no I (by show X.A.units + 1 < cLine; omega) b r w (by simpa using hw)) ⟨.bl _, H, I, rfl, ?_⟩
      rw [show its.toArray.any (fun _ => false) = false by simp]
      exact q
end
end Iw

set_option Elab.async false
set_option linter.all false
set_option maxRecDepth 100000
set_option maxHeartbeats 4000000
namespace Oq
open PySem PySem.Spec PyProof.Rows L2
/-! == and != of an instance with an own __eq__ -/
/-- what it is compared with, and the type of that -/
inductive Cv (C : Addr) (H : Hp) : V → Value → Prop where
  | ins {b dx D : Addr} {fs : List (Str × V)} (h : H b = some (.ins D dx fs)) : Cv C H (.ref b) (.ref D)
  | int (i : Int) : Cv C H (.int i) (.type "int")
  | bl (b : Bool) : Cv C H (.bl b) (.type "bool")
  | dic {p : Addr} {kvs : List (Key × V)} (h : H p = some (.dK kvs)) : Cv C H (.ref p) (.type "dict")
  | non : Cv C H .non (.type "NoneType")
  | str (z : Str) : Cv C H (.str z) (.type "str")
  | tup {p : Addr} {xs : List V} (h : H p = some (.tup xs)) : Cv C H (.ref p) (.type "tuple")
  | lst {p : Addr} {xs : List V} (h : H p = some (.lst xs)) : Cv C H (.ref p) (.type "list")
section
variable {X : Cx} {pins : List (Addr × Obj)} {σ : L2.St} {H : Hp} {s : Shared} {C : Addr}
theorem looks_ty {v : Value} {T : String} (h : ∀ s' : Shared, (∀ b o, s.heap.get? b = some o → s'.heap.get? b = some o) → s'.TypeIs v T) : PySem.W.Looks (model X.prog X.w) s.heap (typeOf v) (.type T) :=
  fun A Q E s' kept q => wpAny_typeOf (h s' kept) q
theorem Cv.looks (I : Inv X pins σ H s) {y : V} {u t : Value} (c : Cv C H y t) (r : RelV y u) : PySem.W.Looks (model X.prog X.w) s.heap (typeOf u) t := by
  cases c with
  | @ins b dx D fs h =>
    cases (show u = Value.ref b from r)
    obtain ⟨m, J, _⟩ := ins_get I.hok h
    obtain ⟨od, J, _⟩ := J.look
    exact J.type
  | non => cases (show u = Value.none from r); exact looks_ty fun _ _ => rfl
  | bl b => cases (show u = Value.bool b from r); exact looks_ty fun _ _ => rfl
  | int i => obtain ⟨t, e⟩ := (show ∃ t, u = Value.int i t from r); cases e; exact looks_ty fun _ _ => rfl
  | @dic p kvs h =>
    cases (show u = Value.ref p from r)
    obtain ⟨_, _, vs, _, o, es, ep, h1, h2, _⟩ := (show ObjOk X.prog X.w H s.heap p (.dK kvs) from I.hok p _ h)
    exact looks_ty fun s' kept => ⟨o, kept _ _ h1, h2.1⟩
  | str z => obtain ⟨t, e⟩ := (show ∃ t, u = Value.str z t from r); cases e; exact looks_ty fun _ _ => rfl
  | @tup p xs h =>
    cases (show u = Value.ref p from r)
    obtain ⟨_, its, rv, o, ho, hc, n, hd⟩ := (show ObjOk X.prog X.w H s.heap p (.tup xs) from I.hok p _ h)
    exact looks_ty fun s' kept => ⟨o, kept _ _ ho, hc⟩
  | @lst p xs h =>
    cases (show u = Value.ref p from r)
    obtain ⟨_, its, n, rv, ho⟩ := (show ObjOk X.prog X.w H s.heap p (.lst xs) from I.hok p _ h)
    exact looks_ty fun s' kept => ⟨_, kept _ _ ho, rfl⟩
/-- an own def, called below -/
theorem own_call {A : Around} {Ex : Value → Shared → Prop} {k : Nat} {f : Addr} {fd : FuncData} {ps : List Str} {sp : Sp} {us : List Value} {vs : List V} {Q : VK} (fr : A.frames = some X.stack) (room : Room k A) (F : FnOk X.prog X.w X.K X.mg X.base CX0 k f fd ps sp)
    (bt : Binds X.K fd ps []) (I : Inv X pins σ H s) (r : Vals vs us) (pr : sp vs H Q E0) : wpAny (model X.prog X.w) A (call (.ref f) us) (EP X pins σ Q) Ex s := by
  have e := I.env0
  have n : us.length = ps.length := by rw [← r.length]; exact F.len _ _ _ _ pr
  have b1 := bt s us I.kIn (by rw [List.append_nil]; exact n)
  rw [List.append_nil] at b1
  refine wpAny_call (codeAny_mono (F.run A X.stack s H ⟨us, []⟩ us vs Q E0 room ⟨fr, e.mod, e.bs, e.bsz, e.funs, e.frf, e.hok, e.bare⟩ b1 r pr) ?_)
  intro rr s2 z
  match rr, z with
  | .error e, z => exact z.elim
  | .ok (.ret u), z => exact I.after z
  | .ok .next, z => exact z.elim
  | .ok .brk, z => exact z.elim
  | .ok .cont, z => exact z.elim
/-- what a class with an own __eq__ and no own __ne__ has -/
structure EqC (K : PySem.W.Frag) (C f : Addr) : Prop where
  eq : PySem.W.findIn K (.ref C) "__eq__" = some (some (.ref f))
  ne : PySem.W.findIn K (.ref C) "__ne__" = some (some (.builtin "object.__ne__"))
  fn : PySem.W.isFn K (.ref f) = true
  ob : PySem.W.mroIn K C (.type "object") = some true
def rOwn (K : PySem.W.Frag) (C : Addr) (sp : Sp) (g : Bool → Bool) : R2 := fun x y H Q => ∃ (a dx : Addr) (fs : List (Str × V)) (t : Value), x = .ref a ∧ H a = some (.ins C dx fs) ∧ Cv C H y t ∧ PySem.W.notFirst K C t = true ∧
  sp [.ref a, y] H (fun v H' => ∃ b, v = .bl b ∧ Q (.bl (g b)) H') E0
variable {k : Nat} {f : Addr} {fd : FuncData} {ps : List Str} {sp : Sp}
theorem op_eqI (E : EqC X.K C f) (F : FnOk X.prog X.w X.K X.mg X.base CX0 k f fd ps sp) (bt : Binds X.K fd ps []) (room : Room k X.A) : OpR X (compareOp .Eq) (rOwn X.K C sp id) := by
  intro pins s σ H x y u v Q I rx ry h
  obtain ⟨a, dx, fs, t, rfl, ha, c, nf, pr⟩ := h
  cases (show u = Value.ref a from rx)
  obtain ⟨m, J, _⟩ := ins_get I.hok ha
  obtain ⟨od, J, _⟩ := J.look
  have fr := I.ok.frames
  obtain ⟨m2, hF⟩ := I.fr
  show wpAny (model X.prog X.w) X.A (richCompare .Eq (.ref a) v) (EP X pins σ Q) X.xe s
  refine PySem.W.cmp_K (op := .Eq) room.units0 hF I.ok.mod.kin J (c.looks I ry) nf E.eq E.fn (thn (own_call fr room F bt I (vs := [.ref a, y]) (.cons (show RelV (.ref a) (Value.ref a) from rfl) (.cons ry .nil)) pr) ?_)
  rintro r s2 ⟨z, H2, I2, rz, b, rfl, q⟩
  cases (show r = Value.bool b from rz)
  exact ⟨.bl b, H2, I2, rfl, q⟩
/-- object.__ne__ on such an instance: its own __eq__ is asked -/
theorem ne_entry {A : Around} {R : Fin → Shared → Prop} {Ex : Value → Shared → Prop} {a : Addr} {ox : Obj} {od : Option Obj} {u : Value} (hu : A.units < cLine) (E : EqC X.K C f) (KI : X.K.In s.heap) (J : PySem.W.InstAt s.heap a ox C od)
    (h : wpAny (model X.prog X.w) A (call (.ref f) [.ref a, u]) (fun r s' => ∃ b, r = .bool b ∧ R (.done (.ret (.bool (!b)))) s') Ex s) : wpAny (model X.prog X.w) A (Builtin.«object.__ne__» ⟨[.ref a, u], []⟩) R Ex s := by
  unfold Builtin.«object.__ne__»
  show wpAny _ _ (slotArgs "__ne__" 1 ⟨[.ref a, u], []⟩ >>= _) _ _ s
  refine wpAny_bind (wpAny_of_eq (rfl : slotArgs "__ne__" 1 ⟨[.ref a, u], []⟩ = pure (.ref a, [u])) ?_)
  refine wpAny_bind (wpAny_cRoomFor hu (wpAny_bind ?_))
  refine PySem.W.ifBound_K KI J E.eq E.fn (wpAny_mono h ?_ fun _ _ z => z)
  rintro r s' ⟨b, rfl, q⟩
  exact wpAny_bind (wpAny_truthy_bool (wpAny_pure q))
theorem ne_call {A : Around} {R : Value → Shared → Prop} {Ex : Value → Shared → Prop} {a : Addr} {ox : Obj} {od : Option Obj} {u : Value} (hu : A.units + 1 < cLine) (E : EqC X.K C f) (KI : X.K.In s.heap) (J : PySem.W.InstAt s.heap a ox C od)
    (h : wpAny (model X.prog X.w) A.in1 (call (.ref f) [.ref a, u]) (fun r s' => ∃ b, r = .bool b ∧ R (.bool (!b)) s') (fun _ _ => False) s) : wpAny (model X.prog X.w) A (tryCompare (.ref a) "__ne__" u) (fun r s' => ∃ v, r = some v ∧ v ≠ .notImplemented ∧ R v s') Ex s := by
  have run : wpAny (model X.prog X.w) A (call (.builtin "object.__ne__") [.ref a, u]) (fun v s' => ∃ b, v = .bool b ∧ R v s') Ex s := by
    refine wpAny_call (codeAny_call_builtin F.cmp_object.ne.plain F.cmpEntry_ne (PySem.W.check_slot F.cmpKind_ne F.cmpSplit_ne (J.type.andThen (PySem.W.looks_mroIn KI E.ob)) (F.cmpArgs_ne _ _) ?_))
    refine ne_entry (by show A.units + 1 < cLine; exact hu) E KI J (wpAny_mono h ?_ fun _ _ z => z.elim)
    rintro r s' ⟨b, rfl, q⟩
    exact ⟨b, rfl, _, rfl, q⟩
  unfold tryCompare
  have last : wpAny (model X.prog X.w) A (callSpecialIfBound? (.ref a) "__ne__" [u]) (fun r s' => ∃ b, r = some (.bool b) ∧ R (.bool b) s') Ex s := by
    simp only [callSpecialIfBound?, bindSpecialIfBound?]
    refine wpAny_holding (wpAny_bind (wpAny_bind (wpAny_bind (J.type.here ((PySem.W.looks_findIn KI E.ne).here (wpAny_bind (wpAny_askSetting (wpAny_ite ?_))))))))
    have go : wpAny (model X.prog X.w) A (call (.builtin "object.__ne__") ([.ref a] ++ [u]) >>= fun v => pure (some v)) (fun r s' => ∃ b, r = some (.bool b) ∧ R (.bool b) s') Ex s := by
      refine wpAny_bind (wpAny_mono run ?_ fun _ _ z => z)
      rintro v s' ⟨b, rfl, q⟩
      exact wpAny_pure ⟨b, rfl, q⟩
    split
    · exact wpAny_bind (wpAny_of_eq (F.cmp_object.ne.bind _) (wpAny_pure (by exact go)))
    · exact wpAny_tryCatch (wpAny_bind (wpAny_of_eq (F.cmp_object.ne.bind _) (wpAny_pure (by exact go))))
  refine wpAny_bind (wpAny_mono last ?_ fun _ _ z => z)
  rintro r s' ⟨b, rfl, q⟩
  exact wpAny_pure ⟨_, rfl, (fun z => by cases z), q⟩
theorem rich_ne {R : Value → Shared → Prop} {Ex : Value → Shared → Prop} {A : Around} {a : Addr} {ox : Obj} {od : Option Obj} {u t : Value} (hu : A.units < cLine) (KI : X.K.In s.heap) (J : PySem.W.InstAt s.heap a ox C od) (look : PySem.W.Looks (model X.prog X.w) s.heap (typeOf u) t)
    (nf : PySem.W.notFirst X.K C t = true) (h : wpAny (model X.prog X.w) A (tryCompare (.ref a) "__ne__" u) (fun r s' => ∃ v, r = some v ∧ v ≠ .notImplemented ∧ R v s') Ex s) : wpAny (model X.prog X.w) A (richCompare .NotEq (.ref a) u) R Ex s := by
  have sub : t = .ref C ∨ PySem.W.subIn X.K t (.ref C) = some false := (Bool.or_eq_true_iff.mp nf).imp beq_iff_eq.mp beq_iff_eq.mp
  have go : ∀ K2 : Option Value → Sem Value, (∀ v, K2 (some v) = pure v) → wpAny (model X.prog X.w) A (tryCompare (.ref a) "__ne__" u >>= K2) R Ex s := by
    intro K2 e
    refine wpAny_bind (wpAny_mono h ?_ fun _ _ z => z)
    rintro r s' ⟨v, rfl, _, q⟩
    rw [e v]
    exact wpAny_pure q
  unfold richCompare
  simp only [oneThing_ref]
  refine wpAny_holding (wpAny_bind (wpAny_cRoomFor hu (wpAny_bind (J.type.here (wpAny_bind (look.here ?_))))))
  split
  · rename_i q
    rcases sub with e | e
    · rw [e] at q
      simp at q
    · refine wpAny_bind ((PySem.W.looks_subIn KI e).here ?_)
      simp only [Bool.false_eq_true, if_false]
      exact go _ fun _ => rfl
  · refine wpAny_bind (wpAny_pure ?_)
    simp only [Bool.false_eq_true, if_false]
    exact go _ fun _ => rfl
theorem op_neI (E : EqC X.K C f) (F : FnOk X.prog X.w X.K X.mg X.base CX0 k f fd ps sp) (bt : Binds X.K fd ps []) (room : Room (k + 1) X.A) : OpR X (compareOp .NotEq) (rOwn X.K C sp Bool.not) := by
  intro pins s σ H x y u v Q I rx ry h
  obtain ⟨a, dx, fs, t, rfl, ha, c, nf, pr⟩ := h
  cases (show u = Value.ref a from rx)
  obtain ⟨m, J, _⟩ := ins_get I.hok ha
  obtain ⟨od, J, _⟩ := J.look
  have fr := I.ok.frames
  have r1 : Room k X.A.in1 := room.in1
  show wpAny (model X.prog X.w) X.A (richCompare .NotEq (.ref a) v) (EP X pins σ Q) X.xe s
  refine rich_ne room.units0 I.kIn J (c.looks I ry) nf (ne_call r1.units0 E I.kIn J (thn (own_call (A := X.A.in1) fr r1 F bt I (vs := [.ref a, y]) (.cons (show RelV (.ref a) (Value.ref a) from rfl) (.cons ry .nil)) pr) ?_))
  rintro r s2 ⟨z, H2, I2, rz, b, rfl, q⟩
  cases (show r = Value.bool b from rz)
  exact ⟨b, rfl, .bl (!b), H2, I2, rfl, q⟩
end
end Oq

set_option Elab.async false
set_option linter.all false
set_option maxRecDepth 100000
set_option maxHeartbeats 4000000
namespace Et
open PySem PySem.Spec PyProof.Rows L2
open AutoSeq1 (wpAny_loadPart')
section
variable {P : Program} {w : World} {A : Around} {E : Value → Shared → Prop} {s : Shared}
def turn (x : Value × Value) (_ : Option Fin × Unit) : Sem (ForInStep (Option Fin × Unit)) := do
  let q ← eqBool x.1 x.2
  if (!q) = true then do
    let v ← ret (.bool false)
    pure (ForInStep.done (some v, ()))
  else pure (ForInStep.yield (none, ()))
theorem turns {zs : List (Value × Value)} {R : Option Fin × Unit → Shared → Prop} {Z : Nat → Shared → Prop} {e : Nat → Bool} (step : ∀ i z s', zs[i]? = some z → Z i s' → wpAny (model P w) A (eqBool z.1 z.2) (fun r s2 => r = e i ∧ Z (i + 1) s2) E s')
    (no : ∀ i s', i < zs.length → e i = false → Z (i + 1) s' → R (some (.done (.ret (.bool false))), ()) s') (yes : ∀ s', (∀ i, i < zs.length → e i = true) → Z zs.length s' → R (none, ()) s') :
    ∀ (rest : List (Value × Value)) (k : Nat) (h : ∃ bs, bs ++ rest = zs) (s' : Shared), k + rest.length = zs.length → (∀ i z, rest[i]? = some z → zs[k + i]? = some z) → (∀ i, i < k → e i = true) → Z k s' →
      wpAny (model P w) A (List.forIn'.loop zs (fun a _ r => turn a r) rest (none, ()) h) R E s'
  | [], k, h, s', hk, hz, he, z0 => by
    rw [List.forIn'.loop]
    have hk : k = zs.length := by simpa using hk
    subst hk
    exact wpAny_pure (yes s' he z0)
  | z :: rest, k, h, s', hk, hz, he, z0 => by
    rw [List.forIn'.loop]
    have hk : k + (rest.length + 1) = zs.length := by simpa using hk
    have h1 := hz 0 z rfl
    refine wpAny_bind (wpAny_bind (wpAny_mono (step k z s' h1 z0) (fun r s2 ⟨er, z1⟩ => ?_) fun _ _ q => q))
    subst er
    cases hb : e k with
    | false => exact wpAny_bind (wpAny_pure (wpAny_pure (wpAny_pure (no k s2 (by omega) hb z1))))
    | true =>
      refine wpAny_pure ?_
      exact turns step no yes rest (k + 1) _ s2 (by omega) (fun i y hy => by rw [Nat.add_assoc, Nat.add_comm 1 i]; exact hz (i + 1) y (by simpa using hy)) (fun i hi => by
        rcases Nat.lt_or_eq_of_le (Nat.le_of_lt_succ hi) with hi | rfl
        · exact he i hi
        · exact hb) z1
theorem tup_eq {a b : Addr} {xs ys : List Value} {n m : Nat} {d1 d2 : Option Addr} {s1 s2 : Array (Option Value)} {Q : Value → Shared → Prop} {Z : Nat → Shared → Prop} {e : Nat → Bool} (ha : s.heap.get? a = some ⟨.type "tuple", d1, .seq xs.toArray n, s1⟩) (hb : s.heap.get? b = some ⟨.type "tuple", d2, .seq ys.toArray m, s2⟩)
    (h0 : Z 0 s) (step : ∀ i z s', (xs.zip ys)[i]? = some z → Z i s' → wpAny (model P w) A (eqBool z.1 z.2) (fun r s2 => r = e i ∧ Z (i + 1) s2) E s')
    (no : ∀ i s', i < (xs.zip ys).length → e i = false → Z (i + 1) s' → Q (.bool false) s') (yes : ∀ s', (∀ i, i < (xs.zip ys).length → e i = true) → Z (xs.zip ys).length s' → Q (.bool (xs.length == ys.length)) s') :
    wpAny (model P w) A (Builtin.«tuple.__eq__» ⟨[.ref a, .ref b], []⟩) (fun r s' => ∃ v, r = .done (.ret v) ∧ Q v s') E s := by
  obtain ⟨hp, gg, dr, tt, oo⟩ := s
  have f3 := AutoSeq1.sub_tuple_tuple
  wp_walk using wpAny_loadPart' ha, wpAny_loadPart' hb
  refine turns (zs := xs.toArray.toList.zip ys.toArray.toList) (Z := Z) (e := e) (fun i z s' hz => step i z s' (by simpa using hz)) (fun i s' hi he hz => ?_) (fun s' he hz => ?_) _ 0 _ _ (by simp) (fun i z hz => by simpa using hz) (fun i hi => absurd hi (Nat.not_lt_zero _)) h0
  · exact wpAny_pure ⟨_, rfl, no i s' (by simpa using hi) he hz⟩
  · have := yes s' (fun i hi => he i (by simpa using hi)) (by simpa using hz)
    refine wpAny_pure ⟨_, rfl, ?_⟩
    show Q (.bool (xs.toArray.size == ys.toArray.size)) s'
    rw [List.size_toArray, List.size_toArray]
    exact this
end
end Et
namespace Et
open PySem PySem.Spec PyProof.Rows L2
section
variable {X : Cx} {C f : Addr} {k : Nat} {fd : FuncData} {ps : List PySem.Str} {sp : Sp}
/-- x is y, or an own __eq__ is asked -/
def Told (K : PySem.W.Frag) (C : Addr) (sp : Sp) (H : Hp) (p q : Addr) (r : Bool) : Prop := (p = q ∧ r = true) ∨ (p ≠ q ∧ ∃ dx fs t, H p = some (.ins C dx fs) ∧ Oq.Cv C H (.ref q) t ∧ PySem.W.notFirst K C t = true ∧ sp [.ref p, .ref q] H (fun v H' => H' = H ∧ v = .bl r) E0)
def rEqTI (K : PySem.W.Frag) (C : Addr) (sp : Sp) (g : Bool → Bool) : R2 := fun x y H Q => ∃ (a b : Addr) (us vs : List Addr) (e : Nat → Bool), x = .ref a ∧ y = .ref b ∧ H a = some (.tup (us.map V.ref)) ∧ H b = some (.tup (vs.map V.ref)) ∧
  (∀ i p q, us[i]? = some p → vs[i]? = some q → Told K C sp H p q (e i)) ∧ Q (.bl (g (decide (us.length = vs.length) && (List.range (min us.length vs.length)).all e))) H
theorem eq_item {pins : List (Addr × Obj)} {σ : L2.St} {H : Hp} {s : Shared} {p q : Addr} {r : Bool} (E : Oq.EqC X.K C f) (F : FnOk X.prog X.w X.K X.mg X.base CX0 k f fd ps sp) (bt : Binds X.K fd ps []) (room : Room (k + 1) X.A) (I : Inv X pins σ H s) (t : Told X.K C sp H p q r) :
    wpAny (model X.prog X.w) X.A.in1 (eqBool (.ref p) (.ref q)) (fun b s2 => b = r ∧ Inv X pins σ H s2) X.xe s := by
  unfold eqBool
  refine wpAny_holding ?_
  rcases t with ⟨rfl, rfl⟩ | ⟨ne, dx, fs, t, hp, c, nf, pr⟩
  · rw [if_pos (beq_self_eq_true _)]
    exact wpAny_bind (wpAny_rule (wpAny_pure ⟨rfl, I⟩))
  · have nb : ¬ ((Value.ref p == Value.ref q) = true) := fun z => ne (Value.ref.inj (eq_of_beq z))
    rw [if_neg nb]
    obtain ⟨m, J, _⟩ := ins_get I.hok hp
    obtain ⟨od, J, _⟩ := J.look
    have fr := I.ok.frames
    obtain ⟨m2, hF⟩ := I.fr
    have r1 : Room k X.A.in1 := room.in1
    refine wpAny_bind (PySem.W.cmp_K (op := .Eq) r1.units0 hF I.ok.mod.kin J (c.looks I (show RelV (.ref q) (Value.ref q) from rfl)) nf E.eq E.fn (thn (Oq.own_call (A := X.A.in1) fr r1 F bt I (vs := [.ref p, .ref q]) (.cons (show RelV (.ref p) (Value.ref p) from rfl) (.cons (show RelV (.ref q) (Value.ref q) from rfl) .nil)) pr) ?_))
    rintro u s2 ⟨z, H2, I2, rz, e1, rfl⟩
    subst e1
    cases (show u = Value.bool r from rz)
    exact wpAny_truthy_bool ⟨rfl, I2⟩
theorem refs_at : ∀ {us : List Addr} {ws : List Value}, Vals (us.map V.ref) ws → ws = us.map Value.ref
  | [], _, .nil => rfl
  | p :: us, u :: ws, .cons r t => by
    cases (show u = Value.ref p from r)
    rw [refs_at t]
    rfl
theorem op_eqTI (E : Oq.EqC X.K C f) (F : FnOk X.prog X.w X.K X.mg X.base CX0 k f fd ps sp) (bt : Binds X.K fd ps []) (room : Room (k + 1) X.A) : OpR X (compareOp .Eq) (rEqTI X.K C sp id) := by
  intro pins s σ H x y u v Q I rx ry h
  obtain ⟨a, b, us, vs, e, rfl, rfl, ha, hb, ht, q⟩ := h
  cases (show u = Value.ref a from rx)
  cases (show v = Value.ref b from ry)
  obtain ⟨its, rv, p1, hz⟩ := I.tuple (SqT.of (K := X.K) ha)
  obtain ⟨jts, rw2, p2, hz2⟩ := I.tuple (SqT.of (K := X.K) hb)
  have e1 := refs_at rv
  have e2 := refs_at rw2
  subst e1 e2
  obtain ⟨⟨c1, d1, a1, s1⟩, o1, k1, m1, f1⟩ := id p1
  obtain ⟨⟨c2, d2, a2, s2⟩, o2, k2, m2, f2⟩ := id p2
  simp only at k1 f1 k2 f2
  subst k1 f1 k2 f2
  show wpAny (model X.prog X.w) X.A (richCompare .Eq (.ref a) (.ref b)) (EP X pins σ Q) X.xe s
  have zl : ((us.map Value.ref).zip (vs.map Value.ref)).length = min us.length vs.length := by rw [List.length_zip, List.length_map, List.length_map]
  refine wpAny_richCompare_same_room (T := "tuple") (op := .Eq) ⟨_, o1, rfl⟩ ⟨_, o2, rfl⟩ PySem.F.slot_tuple_eq (wpAny_call_entry PySem.F.slot_tuple_eq ⟨_, o1, rfl⟩ PySem.F.entry_tuple_eq (tup_eq (Z := fun _ s' => Inv X pins σ H s') (e := e) o1 o2 I (fun i z s' hz I' => ?_) (fun i s' hi he I' => ?_) (fun s' he I' => ?_)) (PySem.F.args_tuple_eq_2 _ _)) room.units0
  · have hl := (List.getElem?_eq_some_iff.mp hz).1
    rw [zl] at hl
    have hu : us[i]? = some us[i] := List.getElem?_eq_getElem (by omega)
    have hv : vs[i]? = some vs[i] := List.getElem?_eq_getElem (by omega)
    have ez : z = (Value.ref us[i], Value.ref vs[i]) := by
      have := hz
      rw [List.getElem?_zip_eq_some] at this
      obtain ⟨b1, b2⟩ := this
      rw [List.getElem?_map, hu] at b1
      rw [List.getElem?_map, hv] at b2
      cases z
      cases b1
      cases b2
      rfl
    rw [ez]
    exact wpAny_mono (eq_item E F bt room I' (ht i _ _ hu hv)) (fun _ _ q => q) fun _ _ q => q
  · rw [zl] at hi
    have el : (decide (us.length = vs.length) && (List.range (min us.length vs.length)).all e) = false := by
      have : (List.range (min us.length vs.length)).all e = false := by
        rw [List.all_eq_false]
        exact ⟨i, List.mem_range.mpr hi, by rw [he]; exact Bool.false_ne_true⟩
      rw [this, Bool.and_false]
    rw [el] at q
    exact ⟨(fun z => nomatch z), .bl false, H, I', rfl, q⟩
  · rw [zl] at he
    have el : (decide (us.length = vs.length) && (List.range (min us.length vs.length)).all e) = ((us.map Value.ref).length == (vs.map Value.ref).length) := by
      have : (List.range (min us.length vs.length)).all e = true := List.all_eq_true.mpr fun i hi => he i (List.mem_range.mp hi)
      rw [this, Bool.and_true, List.length_map, List.length_map]
      by_cases h : us.length = vs.length
      · rw [decide_eq_true h, h, beq_self_eq_true]
      · rw [decide_eq_false h, beq_false_of_ne h]
    rw [el] at q
    exact ⟨(fun z => nomatch z), .bl _, H, I', rfl, q⟩
/-! a text == any plain value -/
/-- whether it is that text -/
def isT (z : PySem.Str) : V → Bool
  | .str y => decide (z = y)
  | _ => false
inductive Pw (H : Hp) : V → Prop where
  | str (z : PySem.Str) : Pw H (.str z)
  | non : Pw H .non
  | int (i : Int) : Pw H (.int i)
  | bl (b : Bool) : Pw H (.bl b)
  | box {p : Addr} (b : Iw.Box H p) : Pw H (.ref p)
def rEqW : R2 := fun x y H Q => ∃ z : PySem.Str, x = .str z ∧ Pw H y ∧ Q (.bl (isT z y)) H
open PySem.SeqAt in
theorem rc_dict {A : Around} {s : Shared} {z : PySem.Str} {u : Tok} {d : Addr} {es : Array DictEntry} {ep : Nat} {dd : Option Addr} {sl : Array (Option Value)} (there : s.heap.get? d = some ⟨.type "dict", dd, .dict es ep, sl⟩) (room : A.units < cLine) : RcAt A s (.str z u) (.ref d) false := fun prog w E Q h =>
  rc_eq_decline_or (k := false) (typeIs_str s z u) ⟨_, there, rfl⟩ (by decide) F.sub_dict_str F.slot_str_eq F.slot_dict_eq_refl
    (fun _ q => call_meets F.slot_str_eq (typeIs_str s z u) F.entry_str_eq (F.args_str_eq_2 _ _) Iw.str_no ⟨there, q⟩)
    (fun _ q => call_meets F.slot_dict_eq_refl ⟨_, there, rfl⟩ F.entry_dict_eq (F.args_dict_eq_2 _ _) Iw.dict_no ⟨there, q⟩)
    (fun _ q => wpAny_of_eq (rfl : isSame (.str z u) (.ref d) = pure false) q) (.inr room) h
open PySem.SeqAt in
theorem op_eqW (hu : X.A.units + 64 < cLine) : OpR X (compareOp .Eq) rEqW := by
  intro pins s σ H x y u v Q I rx ry h
  obtain ⟨z, rfl, py, q⟩ := h
  have room : X.A.units < cLine := by omega
  cases u with
  | str z2 t =>
    cases (show z = z2 from by obtain ⟨t', e⟩ := (show ∃ t', Value.str z2 t = Value.str z t' from rx); cases e; rfl)
    have fin : ∀ {r : Bool}, RcAt X.A s (.str z t) v r → r = isT z y → wpAny (model X.prog X.w) X.A (compareOp .Eq (.str z t) v) (EP X pins σ Q) X.xe s := fun {r} e er => by
      subst er
      exact e X.prog X.w _ _ ⟨.bl _, H, I, rfl, q⟩
    cases py with
    | str z3 =>
      obtain ⟨t3, rfl⟩ := (show ∃ t3, v = Value.str z3 t3 from ry)
      refine fin (RcAt.str_str z t z3 t3) ?_
      show (z == z3) = decide (z = z3)
      by_cases e : z = z3
      · subst e
        rw [decide_eq_true rfl, beq_self_eq_true]
      · rw [decide_eq_false e, beq_false_of_ne e]
    | non =>
      cases (show v = Value.none from ry)
      exact fin (RcAt.str_none z t) rfl
    | int i =>
      obtain ⟨t3, rfl⟩ := (show ∃ t3, v = Value.int i t3 from ry)
      exact fin (RcAt.str_int z t i t3) rfl
    | bl b =>
      cases (show v = Value.bool b from ry)
      exact fin (RcAt.str_bool z t b) rfl
    | @box p b =>
      cases (show v = Value.ref p from ry)
      cases b with
      | lst h =>
        obtain ⟨its, rv, pl, hz⟩ := I.list (SqL.of h)
        exact fin (RcAt.str_list z t pl.isList room) rfl
      | tup h =>
        obtain ⟨its, rv, pt, hz⟩ := I.tuple (SqT.of h)
        exact fin (RcAt.str_tuple z t pt room) rfl
      | dic h =>
        obtain ⟨hz, hs0, vs, kv, o, es, ep, there, ex, da, _⟩ := I.hok p _ h
        obtain ⟨c, dd, d0, sl⟩ := o
        obtain ⟨e1, e2, e3⟩ := ex
        simp only at e1 da
        subst e1 da
        exact fin (rc_dict there room) rfl
  | _ =>
    obtain ⟨t', e⟩ := (show ∃ t', _ = Value.str z t' from rx)
    cases e
end
end Et

set_option Elab.async false
set_option linter.all false
set_option maxRecDepth 100000
set_option maxHeartbeats 4000000
namespace PySem
namespace Ge
open Builtin Builtin.ObjectAttr
/-! own errors under any base: own classes, then the base's row -/
def tailB (tl : List Value) : List Value → Bool
  | .ref _ :: r => tailB tl r
  | l => l == tl
theorem tail_cut {tl : List Value} : ∀ l : List Value, tailB tl l = true → ∃ cs : List Addr, l = cs.map Value.ref ++ tl
  | [], h => ⟨[], beq_iff_eq.mp h⟩
  | v :: r, h => by
    match v, h with
    | .ref c, h =>
      obtain ⟨cs, e⟩ := tail_cut (tl := tl) r h
      exact ⟨c :: cs, by rw [e]; rfl⟩
    | .none, h | .ellipsis, h | .notImplemented, h | .bool _, h | .int _ _, h | .float _ _, h | .str _ _, h | .bytes _ _, h | .type _, h | .builtin _, h => exact ⟨[], beq_iff_eq.mp h⟩
/-- what a base's row must do -/
structure Tl (tl : List Value) : Prop where
  pass : ∀ self : Value, refuseLoop self "__setattr__" tl = pure ()
  obj : tl.contains (.type "object") = true
theorem row_contains {tl l : List Value} (h : tailB tl l = true) (T : String) : l.contains (.type T) = tl.contains (.type T) := by
  obtain ⟨cs, rfl⟩ := tail_cut l h
  induction cs with
  | nil => rfl
  | cons c cs ih =>
    rw [List.map_cons, List.cons_append, List.contains_cons, ih (by
      have h' : tailB tl (Value.ref c :: (cs.map Value.ref ++ tl)) = true := h
      exact h')]
    rfl
theorem row_pass {tl l : List Value} (t : Tl tl) (self : Value) (h : tailB tl l = true) : refuseLoop self "__setattr__" l = pure () := by
  obtain ⟨cs, rfl⟩ := tail_cut l h
  clear h
  induction cs with
  | nil => exact t.pass self
  | cons c cs ih =>
    show refuseLoop self "__setattr__" (Value.ref c :: (cs.map Value.ref ++ tl)) = _
    rw [refuseLoop_ref]
    exact ih
theorem row_some {tl l : List Value} (t : Tl tl) (h : tailB tl l = true) : l.isEmpty = false := by
  cases l with
  | nil =>
    have e : ([] : List Value) = tl := beq_iff_eq.mp h
    have o := t.obj
    rw [← e] at o
    cases o
  | cons _ _ => rfl
section
variable {prog : Program} {w : World} {A : Around} {R : Result → Shared → Prop} {hp : Heap} {g : Array GenState} {d : Drawn} {t : Nat} {os : OsState}
/-- object.__setattr__ on an error that has no dict yet -/
theorem first_field {tl : List Value} (T : Tl tl) {K : W.Frag} {name : Str} {tk : Tok} {v : Value} {x C : Addr} {fv : Array Value} {cd : ClassData} (KI : K.In hp) (here : hp.get? x = some { cls := .ref C, data := .fields fv }) (cls : W.clsIn K C = some cd)
    (row : tailB tl cd.mro = true) (dict : cd.hasDict = true) (no : W.findIn K (.ref C) name = some none)
    (out : ∀ h' tk' dx, (∀ b o, b ≠ x → hp.get? b = some o → h'.get? b = some o) → hp.objs.size ≤ dx → dx ≠ x → h'.get? x = some { cls := .ref C, dict := some dx, data := .fields fv } → h'.Ns1 dx (fun y => if y = name then some v else none) →
      R (.ok (.ret .none)) ⟨h', g, d, tk', os⟩) : codeAny (model prog w) A (.call (.builtin "object.__setattr__") ⟨[.ref x, .str name tk, v], []⟩) R ⟨hp, g, d, t, os⟩ := by
  have at_ : W.InstAt hp x { cls := .ref C, data := .fields fv } C none := ⟨here, rfl, rfl, trivial⟩
  have facts := F.store_object
  have some_ := row_some T row
  have below : cd.mro.contains (.type "object") = true := by rw [row_contains row "object"]; exact T.obj
  have apart : x ≠ hp.objs.size := Nat.ne_of_lt (Heap.lt_size here)
  have mem : W.mroIn K C (.type "object") = some true := by
    unfold W.mroIn
    rw [cls, Option.bind_some, if_neg (by rw [some_]; decide), below]
  have isObj : W.Looks (model prog w) hp (isInstance (.ref x) (.type "object")) true := at_.type.andThen (W.looks_mroIn KI mem)
  refine codeAny_call_builtin facts.slot.plain facts.entry ?_
  refine @W.check_slot (model prog w) _ _ ⟨hp, g, d, t, os⟩ "object.__setattr__" "object" "__setattr__" (.ref x) [.str name tk, v] [] _ facts.kind facts.split isObj (facts.args (.ref x) (.str name tk) v) ?_
  have rowL : W.Looks (model prog w) hp (mroOf (.ref C)) cd.mro := (W.looks_clsIn KI cls).andThen .now
  have taker : W.Looks (model prog w) hp (storeTaker? none) none := .now
  have dataL : W.Looks (model prog w) hp (classData C) cd := W.looks_clsIn KI cls
  rw [W.osa_eq, refuse_eq]
  refine wpAny_bind (wpAny_bind (at_.type.at (wpAny_bind (rowL.at ?_))))
  rw [row_pass T _ row]
  refine wpAny_pure (wpAny_bind (at_.type.at (wpAny_bind ((W.looks_findIn KI no).at (wpAny_bind (taker.at ?_))))))
  show wpAny _ _ (storeInOwnDict (.ref x) (.ref C) (.str name tk) name v false) _ _ _
  obtain ⟨c1, c2, c3, c4, c5, c6, c7, c8, c9, c10, c11⟩ := cd
  cases (show c6 = true from dict)
  unfold storeInOwnDict
  unfold ownDictForStores
  repeat (first | with_reducible refine HandSPX.store_in_new ?_ ?_ | with_reducible refine wpAny_loadPart_at here ?_ | with_reducible refine dataL.at ?_ | wp_step)
  · exact ⟨_, #[], _, (Heap.get?_update_ne _ _ _ _ apart.symm).trans (Heap.get?_push_at rfl rfl), rfl, fun e he => absurd he (by simp), fun _ => rfl⟩
  · intro h' tk' ns same
    have here2 : (hp.push { cls := .type "dict", data := .dict #[] }).get? x = some { cls := .ref C, data := .fields fv } := Heap.get?_push_of_some _ here
    apply out h' tk' hp.objs.size _ (Nat.le_refl _) apart.symm _ ns
    · intro b o n q
      have n2 : b ≠ hp.objs.size := Nat.ne_of_lt (Heap.lt_size q)
      rw [same.2 b n2, Heap.get?_update_ne _ _ _ _ n]
      exact Heap.get?_push_of_some _ q
    · rw [same.2 x apart]
      exact Heap.get?_update_self _ here2 rfl
end
end Ge
end PySem
namespace Ge
open PySem PySem.Spec PyProof.Rows L2
/-- an own error class with an own __init__, over any base -/
structure OexT (K : PySem.W.Frag) (C : Addr) (tl : List Value) (newId : String) : Prop where
  base : PySem.Ge.Tl tl
  cls : ∃ nm q N bs bm sn sub ab col dd k0 k1 k2 k3 k5, K.lookup C = some (excClassObj nm q C N bs bm true sn sub ab col dd k0 k1 k2 k3 k5 newId) ∧ PySem.Ge.tailB tl bm = true
  sa : PySem.W.findIn K (.ref C) "__setattr__" = some (some (.builtin "object.__setattr__"))
  exC : PySem.W.subIn K (.ref C) (.type "BaseException") = some true
  tyC : PySem.W.typeIn K (.ref C) = some (.type "type")
  kC : PySem.W.keepIn K (.ref C) = true
section
variable {X : Cx} {pins : List (Addr × Obj)} {σ : L2.St} {H : Hp} {s : Shared} {a C : Addr} {tl : List Value} {newId : String} {f : Str} {y : V} {u : Value} {Q : Unit → Shared → Prop} {E : Value → Shared → Prop} {A : Around}
theorem other_obj {H : Hp} {a b : Addr} {o u : HO} (ha : H a = some o) (hb : H b = some u) (d : o ≠ u) : b ≠ a := by
  rintro rfl
  rw [ha] at hb
  cases hb
  exact d rfl
/-- its first field is set -/
theorem set_first (T : OexT X.K C tl newId) (I : Inv X pins σ H s) (e : H a = some (exo a C none)) (no : PySem.W.findIn X.K (.ref C) f = some none) (ry : RelV y u)
    (out : ∀ dx s', H dx = none → dx ≠ a → Inv X pins σ (upd (upd H dx (exd dx [(f, y)])) a (exo a C (some dx))) s' → Q () s') : wpAny (model X.prog X.w) A (setAttr (.ref a) f u) Q E s := by
  obtain ⟨nm, q, N, bs, bm, sn, sub, ab, col, dd, k0, k1, k2, k3, k5, at_, row⟩ := T.cls
  have data : PySem.W.clsIn X.K C = some { name := nm, bases := bs, mro := .ref C :: bm, ns := N, qualname := q, hasDict := true, slotNames := sn, subclasses := sub, abstract := ab, collection := col, hasDel := false } := by
    unfold PySem.W.clsIn
    rw [at_]
  obtain ⟨t1, ho⟩ := exo_at I.hok e
  obtain ⟨hp, g, d, t, os⟩ := s
  refine PySem.W.set_plain I.kIn (ox := { cls := .ref C, dict := none, data := .fields #[.ref t1, .none, .none, .none, .bool false, .none] }) (od := none) ⟨ho, rfl, rfl, trivial⟩ T.sa ?_
  apply PySem.Ge.first_field T.base I.kIn ho data (show PySem.Ge.tailB tl (.ref C :: bm) = true from row) rfl no
  intro h' tk' dx kept fresh ne here ns
  have free : H dx = none := I.hok.fresh fresh
  have below : ∀ {b : Addr} {o : Obj}, hp.get? b = some o → b ≠ dx := fun q => Nat.ne_of_lt (Nat.lt_of_lt_of_le (Heap.lt_size q) fresh)
  have off : ∀ {b : Addr}, H b = none → b ≠ a := by
    rintro b n rfl
    exact absurd (e.symm.trans n) (by simp)
  have at2 : ∀ {b : Addr} {o : HO}, H b = some o → exo a C none ≠ o → (upd (upd H dx (exd dx [(f, y)])) a (exo a C (some dx))) b = some o := fun {b o} q n => by
    rw [upd_ne (other_obj e q n), upd_ne (ne_of_none q free)]
    exact q
  refine out dx _ free ne (I.un (t' := tk') ?_ ?_)
  · exact
      { keep := fun b o q n _ _ => kept b o (off n) q
        slot := fun b o q n _ _ => ⟨o.slots, kept b o (off n) q⟩
        free := fun b o q n _ => by
          rw [upd_ne (off n), upd_ne (below q)]
          exact n
        there := fun b o q _ => by
          rcases Decidable.em (b = a) with rfl | hb
          · exact ⟨_, here⟩
          · exact ⟨o, kept b o hb q⟩
        tups := fun b xs q => at2 q exo_tup
        frzs := fun b o v q => at2 q exo_frz
        tbls := fun b ps q => ⟨#[], by rw [at2 q exo_tbl]; simp⟩ }
  · intro b o q
    rcases Decidable.em (b = a) with rfl | hb
    · rw [upd_same] at q
      cases q
      exact exo_ok here
    rw [upd_ne hb] at q
    rcases Decidable.em (b = dx) with rfl | hd
    · rw [upd_same] at q
      cases q
      exact exd_ok ns (relO_put (fs := []) ry fun _ => trivial)
    rw [upd_ne hd] at q
    refine (I.hok b o q).stay (fun c v hc z => kept c v ?_ z) (fun c hc => at2 hc exo_own) (fun c xs hc => at2 hc exo_tup)
    rcases hc with rfl | hc
    · exact hb
    · exact other_obj e hc exo_own
end
/-- self.f = e, the first field of such an error -/
def tOstT (K : PySem.W.Frag) (f : Str) (to te : TE) : TS := fun D σ H => te σ H fun y H1 => to σ H1 fun x H2 => ∃ (a C : Addr) (tl : List Value) (newId : String), x = .ref a ∧ OexT K C tl newId ∧ PySem.W.findIn K (.ref C) f = some none ∧ H2 a = some (exo a C none) ∧
  ∀ dx, H2 dx = none → dx ≠ a → D.nx σ (upd (upd H2 dx (exd dx [(f, y)])) a (exo a C (some dx)))
section
variable {X : Cx} {o e : Expr} {f : Str} {p' pos : Pos} {to te : TE}
theorem ps_ostT (ho : PE X o to) (he : PE X e te) (hs : swapsWith e (some (.Attribute o f p')) pos.line X.env = pure false := by rfl) : PS X (.Assign [.Attribute o f p'] e pos) (tOstT X.K f to te) := by
  constructor
  intro pins s σ H D I h
  refine plainObj_wpAny_Assign_Attribute (thn (he.run pins s σ H _ I h) ?_) hs
  rintro v s1 ⟨y, H1, I1, r1, q1⟩
  refine thn (ho.run pins s1 σ H1 _ I1 q1) ?_
  rintro u s2 ⟨x, H2, I2, r2, a, C, tl, newId, rfl, T, no, ea, q⟩
  obtain rfl : u = Value.ref a := r2
  exact set_first T I2 ea no r1 fun dx s' n ne J => ⟨σ, _, J, q dx n ne⟩
end
section
variable {X : Cx} {CX : CXT} {x : Str} {e : Expr} {es : List Expr} {ta : TA} {p pos : Pos} {C fI : Addr} {k : Nat} {fd : FuncData} {ps : List Str} {sp : Sp} {ds : List Value} {dvs : List V} {tl : List Value} {B newId initId : String}
/-- such an error, made: its context is None -/
theorem pmk_T (F : ExcBaseFacts B newId initId tl) (T : OexT X.K C tl newId) (iC : PySem.W.findIn X.K (.ref C) "__init__" = some (some (.ref fI))) (tI : PySem.W.typeIn X.K (.ref fI) = some (.type "function")) (F1 : FnOk X.prog X.w X.K X.mg X.base CX k fI fd ps sp) (hr : Room (k + 1) X.A) (hb : Binds X.K fd ps ds)
    (hd : Vals dvs ds) (hx : Passes CX X (fun _ _ _ => False)) (hm : X.mg x = some (.ref C)) (ha : PA X (e :: es) ta) (hg : Gl X x := by rfl) (hdb : (x == ("__debug__" : Str)) = false := by decide) (he : starEach (e :: es) X.env = (false, eval e X.env) :: starEach es X.env := by rfl)
    (hpl : (backTo pos (starEach es X.env)).any (·.1) = false := by rfl) : L2N.PMk X (.Call (.Name x p) (e :: es) [] pos) (tMkO C sp dvs ta) := fun pins s σ H Q I h => by
  obtain ⟨nm, qn, N, bs, bm, sn, sub, ab, col, dd, k0, k1, k2, k3, k5, hC, row⟩ := T.cls
  refine wpAny_Call_Name_kw (ld_glob I hg hm (PySem.W.callWith_K (h₀ := X.base) I.ok.mod.kin T.kC (thn (ha.run pos pins s σ H _ I h) fun us st ⟨vs, H1, J, rv, hz, q1⟩ => ⟨J.kIn, ?_⟩) he hpl) hdb)
  show wpAny _ _ (call (.ref C) us) _ _ _
  obtain ⟨hp, g, dr, tk, os⟩ := st
  have up : hp.objs.size ≤ hp.objs.size + 1 := by omega
  have spec := q1 (hp.objs.size + 1) (J.hok.fresh up)
  have stay : ∀ b o, hp.get? b = some o → ((hp.push (PySem.W.kdv_tup us)).push (PySem.HandSPX.excO C hp.objs.size)).get? b = some o := fun b o z => Heap.get?_push_of_some _ (Heap.get?_push_of_some _ z)
  have there : ((hp.push (PySem.W.kdv_tup us)).push (PySem.HandSPX.excO C hp.objs.size)).get? (hp.objs.size + 1) = some (PySem.HandSPX.excO C hp.objs.size) := by heap_get
  have J2 := J.laid (t' := tk) (a := hp.objs.size + 1) (o := exo (hp.objs.size + 1) C none) (h' := (hp.push (PySem.W.kdv_tup us)).push (PySem.HandSPX.excO C hp.objs.size)) stay up (exo_ok there)
  have rel : Vals (V.ref (hp.objs.size + 1) :: (vs ++ dvs)) (Value.ref (hp.objs.size + 1) :: (us ++ ds)) := .cons rfl (rv.append hd)
  have len : (Value.ref (hp.objs.size + 1) :: us ++ ds).length = ps.length := (F1.len _ _ _ _ spec ▸ rel.length).symm
  have line : us.length ≤ sizeLine := by rw [← Paired.length rv, sizeLine_eq]; omega
  refine wpAny_call (PySem.HandSPX.call_own F (PySem.Ge.row_contains row) (J.kIn _ _ hC) (PySem.W.looks_findIn J.kIn iC) (fun self => PySem.W.bind_fn J.kIn self tI) line
    (codeAny_mono (F1.run _ X.stack _ _ ⟨Value.ref (hp.objs.size + 1) :: us, []⟩ (Value.ref (hp.objs.size + 1) :: (us ++ ds)) _ _ (fun _ _ _ => False) (hr.make C us []) (J2.env0.make C us []) (hb _ (Value.ref (hp.objs.size + 1) :: us) J2.kIn len) rel spec) fun r s' back => ?_))
  match r, back with
  | .error er, back => exact hx pins σ _ _ er s' J2 back
  | .ok .next, back => exact back.elim
  | .ok .brk, back => exact back.elim
  | .ok .cont, back => exact back.elim
  | .ok (.ret u), back =>
    obtain ⟨v, H2, os2, bare2, un2, hok2, rv2, ev, d, fs, ea, ed, hd1, q2⟩ := back
    subst ev
    obtain ⟨h2, g2, d2, t2, os'⟩ := s'
    obtain ⟨t0, G, JG, kG, ge, hoe, na⟩ := mk_end0 (d2 := d2) (t2 := t2) J up stay un2 hok2 os2 bare2 ea ed hd1
    exact ⟨rv2, _, _, _, ⟨G, g2, d2, t2, os'⟩, _, .ref C, some d, rfl, JG, kG, ge, hoe, ⟨rfl, rfl, fun z ez => by cases ez; rfl⟩, rfl, rfl, na, rfl, bare2, raises_own T.exC T.tyC, q2⟩
end
abbrev leTail : List Value := [.type "LookupError", .type "Exception", .type "BaseException", .type "object"]
abbrev rtTail : List Value := [.type "RuntimeError", .type "Exception", .type "BaseException", .type "object"]
abbrev vlTail : List Value := [.type "ValueError", .type "Exception", .type "BaseException", .type "object"]
theorem tl_le : PySem.Ge.Tl leTail := ⟨PySem.F.store_LookupError.passes, by decide +kernel⟩
theorem tl_rt : PySem.Ge.Tl rtTail := ⟨PySem.F.store_RuntimeError.passes, by decide +kernel⟩
theorem tl_vl : PySem.Ge.Tl vlTail := ⟨PySem.F.store_ValueError.passes, by decide +kernel⟩
end Ge

set_option Elab.async false
set_option linter.all false
set_option maxRecDepth 100000
set_option maxHeartbeats 4000000
namespace PySem
namespace Gf
open Builtin Builtin.ObjectAttr
section
variable {prog : Program} {w : World} {A : Around} {R : Result → Shared → Prop} {hp : Heap} {g : Array GenState} {d : Drawn} {t : Nat} {os : OsState}
/-- object.__setattr__ on an own error that has its dict, over any base -/
theorem next_field {tl : List Value} (T : Ge.Tl tl) {K : W.Frag} {name : Str} {tk : Tok} {v : Value} {x C dx : Addr} {fv : Array Value} {cd : ClassData} {m0 : Str → Option Value} {nl : List Str} (KI : K.In hp) (here : hp.get? x = some { cls := .ref C, dict := some dx, data := .fields fv })
    (hns : hp.Ns1 dx m0) (hw : Within m0 nl) (hz : nl.length ≤ 1000) (cls : W.clsIn K C = some cd) (row : Ge.tailB tl cd.mro = true) (dict : cd.hasDict = true) (no : W.findIn K (.ref C) name = some none)
    (out : ∀ h' tk', (∀ b o, b ≠ dx → hp.get? b = some o → h'.get? b = some o) → h'.Ns1 dx (fun y => if y = name then some v else m0 y) → R (.ok (.ret .none)) ⟨h', g, d, tk', os⟩) :
    codeAny (model prog w) A (.call (.builtin "object.__setattr__") ⟨[.ref x, .str name tk, v], []⟩) R ⟨hp, g, d, t, os⟩ := by
  obtain ⟨oD, esD, epD, hoD, hdD, _⟩ := hns.count hw
  have at_ : W.InstAt hp x { cls := .ref C, dict := some dx, data := .fields fv } C (some oD) := ⟨here, rfl, rfl, hoD⟩
  have facts := F.store_object
  have some_ := Ge.row_some T row
  have below : cd.mro.contains (.type "object") = true := by rw [Ge.row_contains row "object"]; exact T.obj
  have mem : W.mroIn K C (.type "object") = some true := by
    unfold W.mroIn
    rw [cls, Option.bind_some, if_neg (by rw [some_]; decide), below]
  have isObj : W.Looks (model prog w) hp (isInstance (.ref x) (.type "object")) true := at_.type.andThen (W.looks_mroIn KI mem)
  refine codeAny_call_builtin facts.slot.plain facts.entry ?_
  refine @W.check_slot (model prog w) _ _ ⟨hp, g, d, t, os⟩ "object.__setattr__" "object" "__setattr__" (.ref x) [.str name tk, v] [] _ facts.kind facts.split isObj (facts.args (.ref x) (.str name tk) v) ?_
  have rowL : W.Looks (model prog w) hp (mroOf (.ref C)) cd.mro := (W.looks_clsIn KI cls).andThen .now
  have taker : W.Looks (model prog w) hp (storeTaker? none) none := .now
  have dataL : W.Looks (model prog w) hp (classData C) cd := W.looks_clsIn KI cls
  rw [W.osa_eq, refuse_eq]
  refine wpAny_bind (wpAny_bind (at_.type.at (wpAny_bind (rowL.at ?_))))
  rw [Ge.row_pass T _ row]
  refine wpAny_pure (wpAny_bind (at_.type.at (wpAny_bind ((W.looks_findIn KI no).at (wpAny_bind (taker.at ?_))))))
  show wpAny _ _ (storeInOwnDict (.ref x) (.ref C) (.str name tk) name v false) _ _ _
  obtain ⟨c1, c2, c3, c4, c5, c6, c7, c8, c9, c10, c11⟩ := cd
  cases (show c6 = true from dict)
  unfold storeInOwnDict ownDictForStores
  repeat (first | with_reducible refine PySem.OEX.store_in_old hns hw hz ?_ | with_reducible refine wpAny_loadPart_at here ?_ | with_reducible refine dataL.at ?_ | wp_step)
  intro h' tk' hn' hs
  exact out h' tk' (fun b o hb ho => (hs.2 b hb).trans ho) hn'
end
end Gf
end PySem
namespace Gf
open PySem PySem.Spec PyProof.Rows L2 Ge
section
variable {X : Cx} {pins : List (Addr × Obj)} {σ : L2.St} {H : Hp} {s : Shared} {a C dx : Addr} {fs : List (Str × V)} {tl : List Value} {newId : String} {f : Str} {y : V} {u : Value} {Q : Unit → Shared → Prop} {E : Value → Shared → Prop} {A : Around}
theorem set_next (T : OexT X.K C tl newId) (I : Inv X pins σ H s) (e : H a = some (exo a C (some dx))) (ed : H dx = some (exd dx fs)) (hl : fs.length ≤ 900) (no : PySem.W.findIn X.K (.ref C) f = some none) (ry : RelV y u)
    (h : ∀ s', Inv X pins σ (upd H dx (exd dx ((f, y) :: fs))) s' → Q () s') : wpAny (model X.prog X.w) A (setAttr (.ref a) f u) Q E s := by
  obtain ⟨nm, q, N, bs, bm, sn, sub, ab, col, dd, k0, k1, k2, k3, k5, hC, row⟩ := T.cls
  have hcl : PySem.W.clsIn X.K C = some { name := nm, bases := bs, mro := .ref C :: bm, ns := N, qualname := q, hasDict := true, slotNames := sn, subclasses := sub, abstract := ab, collection := col, hasDel := false } := by
    unfold PySem.W.clsIn
    rw [hC]
  obtain ⟨t1, ho⟩ := exo_at I.hok e
  obtain ⟨mA, hns, rel⟩ := exd_at I.hok ed
  have hw := within_of rel
  obtain ⟨hp, g, d, t, os⟩ := s
  obtain ⟨oD, _, _, hoD, _, _⟩ := hns.count hw
  refine PySem.W.set_plain I.kIn (ox := { cls := .ref C, dict := some dx, data := .fields #[.ref t1, .none, .none, .none, .bool false, .none] }) (od := some oD) ⟨ho, rfl, rfl, hoD⟩ T.sa ?_
  refine PySem.Gf.next_field T.base I.kIn ho hns hw (by rw [List.length_map]; omega) hcl (show PySem.Ge.tailB tl (.ref C :: bm) = true from row) rfl no (fun h' tk' k hn => ?_)
  have hd : ∃ o, h'.get? dx = some o := by
    obtain ⟨o, _, _, e', _⟩ := hn
    exact ⟨o, e'⟩
  exact h _ (I.write (t' := tk') (x := dx) (e := dx) (o := exd dx ((f, y) :: fs)) (by rw [ed]; exact True.intro) (.inl rfl) k hd (exd_ok hn (relO_put ry rel)))
end
/-- self.f = e, a later field of such an error -/
def tOstN (K : PySem.W.Frag) (f : Str) (to te : TE) : TS := fun D σ H => te σ H fun y H1 => to σ H1 fun x H2 => ∃ (a C dx : Addr) (fs : List (Str × V)) (tl : List Value) (newId : String), x = .ref a ∧ OexT K C tl newId ∧ PySem.W.findIn K (.ref C) f = some none ∧ H2 a = some (exo a C (some dx)) ∧ H2 dx = some (exd dx fs) ∧ fs.length ≤ 900 ∧
  D.nx σ (upd H2 dx (exd dx ((f, y) :: fs)))
section
variable {X : Cx} {o e : Expr} {f : Str} {p' pos : Pos} {to te : TE}
theorem ps_ostN (ho : PE X o to) (he : PE X e te) (hs : swapsWith e (some (.Attribute o f p')) pos.line X.env = pure false := by rfl) : PS X (.Assign [.Attribute o f p'] e pos) (tOstN X.K f to te) := by
  constructor
  intro pins s σ H D I h
  refine plainObj_wpAny_Assign_Attribute (thn (he.run pins s σ H _ I h) ?_) hs
  rintro v s1 ⟨y, H1, I1, r1, q1⟩
  refine thn (ho.run pins s1 σ H1 _ I1 q1) ?_
  rintro u s2 ⟨x, H2, I2, r2, a, C, dx, fs, tl, newId, rfl, T, no, ea, ed, hl, q⟩
  obtain rfl : u = Value.ref a := r2
  exact set_next T I2 ea ed hl no r1 fun s' J => ⟨σ, _, J, q⟩
end
end Gf

set_option Elab.async false
set_option linter.all false
set_option maxRecDepth 100000
set_option maxHeartbeats 4000000
namespace Lg
open PySem PySem.Spec PyProof.Rows L2
/-! promises of defs that are called where no guard of repr stands -/
structure FnG (P : Program) (w : World) (K : PySem.W.Frag) (mg : Str → Option Value) (base : Heap) (X0 : CXT) (k : Nat) (f : Addr) (fd : FuncData) (ps : List Str) (sp : Sp) : Prop where
  few : ∀ vs H Q E, sp vs H Q E → vs.length = ps.length
  goes : ∀ (A : Around) (fs : List Env) (s : Shared) (H : Hp) (ar : Args) (us : List Value) (vs : List V) (Q : VK) (E : XK), A.guards = some [] → Room k A → Env0 P w K mg base A fs s H → BindsTo s fd ar (ps.zip us) →
    Vals vs us → sp vs H Q E → codeAny (model P w) A (.call (.ref f) ar) (CR X0 fs P w H s Q E) s
section
variable {P : Program} {w : World} {K : PySem.W.Frag} {mg : Str → Option Value} {base : Heap} {X0 : CXT} {k : Nat} {x qual : Str} {params : Arguments} {bd : List Stmt} {scope : Scope} {dvs : List V} {kws : List (Str × V)} {f : Addr} {fd : FuncData} {N ps : List Str} {sp : Sp}
theorem FnG.of (F : FnOk P w K mg base X0 k f fd ps sp) : FnG P w K mg base X0 k f fd ps sp := ⟨F.len, fun A fs s H ar us vs Q E _ => F.run A fs s H ar us vs Q E⟩
/-- such a def's body -/
theorem okG (F : FunD K x qual params bd scope dvs kws f fd) (S : FnScope N ps scope) (few : ∀ vs H Q E, sp vs H Q E → vs.length = ps.length)
    (does : ∀ (cd : Value) (A : Around) (fs : List Env) (s : Shared) (H : Hp) (vs : List V) (Q : VK) (E : XK), (A.deeper (envOfC qual scope s.heap.objs.size f cd)).guards = some [] → Room k (A.deeper (envOfC qual scope s.heap.objs.size f cd)) → sp vs H Q E →
      ∃ t, PSs (cxOf X0 P w K mg base N qual scope f cd A fs s H E) bd t ∧ t { nx := fun _ G => Q .non G, rt := Q } (start N vs) H) : FnG P w K mg base X0 (k + 1) f fd ps sp := by
  obtain ⟨oc, od, dV, kV, doc, pm, an, cd, ct, sl, rfl, here, code, _, _⟩ := F.ex
  constructor
  · exact few
  intro A fs s H ar us vs Q E g room e0 bt rel pr
  have inK : K.In s.heap := e0.mod.kin.keeps fun b o q => (e0.bs b o q).1
  have free : s.heap.NoLimit := e0.mod.nolimit.keeps fun b o q => (e0.bs b o q).1
  have kinds : ∀ y ∈ ps.zip us, scope.names.lookup y.1 = some .local ∨ (scope.names.lookup y.1 = some .cell ∧ ((cellsFrom (s.heap.objs.size + 1) scope.names []).lookup y.1).isSome = true) := by
    rintro ⟨n, v⟩ hy
    have hn := S.par n (List.of_mem_zip hy).1
    exact hn.imp id fun q => ⟨q, PySem.W.cellsFrom_some _ _ _ (.inl q)⟩
  refine codeAny_call_function room.depth (inK _ _ here) rfl S.co S.gen rfl (PySem.W.codeRec_of inK code) (bt _ _ _ _ (wpAny_newFunctionEnv_cells S.kind kinds ?_))
  intro env he s1 st
  cases he
  refine ⟨free.keeps st.toInCall.keep, codeAny_func ?_⟩
  obtain ⟨t, ht, go⟩ := does cd A fs s H vs Q E g (room.deeper _) pr
  have I : Inv (cxOf X0 P w K mg base N qual scope f cd A fs s H E) [] (start N vs) H s1 := inv_start S room.hd e0 (few _ _ _ _ pr) rel st
  have out : ∀ {σ : L2.St} {G : Hp} {v : V} {u : Value} {s2 : Shared}, Inv (cxOf X0 P w K mg base N qual scope f cd A fs s H E) [] σ G s2 → RelV v u → Q v G → CE fs P w H s Q u s2 := by
    intro σ G v u s2 J r q
    exact ⟨v, G, J.os, J.bare, J.base, J.hok, r, q⟩
  apply wpAny_mono (ht.run [] s1 (start N vs) H _ I go)
  · intro fl s2 z
    match fl, z with
    | .ret u, z => obtain ⟨v, σ, G, J, r, q⟩ := z; exact out J r q
    | .next, z => obtain ⟨σ, G, J, q⟩ := z; exact out (u := Value.none) J (show RelV V.non Value.none from rfl) q
    | .brk, z => obtain ⟨_, _, _, q⟩ := z; exact q.elim
    | .cont, z => obtain ⟨_, _, _, q⟩ := z; exact q.elim
  · exact fun _ _ z => z
end
/-! calls -/
structure CalG (P : Program) (w : World) (K : PySem.W.Frag) (mg : Str → Option Value) (base : Heap) (X0 : CXT) (x : Str) (k : Nat) (ps : List Str) (sp : Sp) : Prop where
  ex : ∃ f fd, mg x = some (.ref f) ∧ PySem.W.keepIn K (.ref f) = true ∧ FnG P w K mg base X0 k f fd ps sp ∧ Binds K fd ps []
section
variable {X : Cx} {x : Str} {p pos : Pos} {e : Expr} {es : List Expr} {t : TA} {k : Nat} {ps : List Str} {sp : Sp}
theorem pe_calG (c : CalG X.prog X.w X.K X.mg X.base CX0 x k ps sp) (gd : X.A.guards = some []) (hr : Room k X.A) (ha : PA X (e :: es) t) (hg : Gl X x := by rfl) (hdb : (x == ("__debug__" : Str)) = false := by decide)
    (he : starEach (e :: es) X.env = (false, eval e X.env) :: starEach es X.env := by rfl) (hpl : (backTo pos (starEach es X.env)).any (·.1) = false := by rfl) :
    PE X (.Call (.Name x p) (e :: es) [] pos) (tCall sp [] E0 t) := by
  obtain ⟨f, fd, hm, hk, F, b⟩ := c.ex
  constructor
  intro pins s σ H Q I h
  refine wpAny_Call_Name_kw (ld_glob I hg hm (PySem.W.callWith_K (h₀ := X.base) I.ok.mod.kin hk (thn (ha.run pos pins s σ H _ I h) ?_) he hpl) hdb)
  rintro us s1 ⟨vs, H1, I1, r, q⟩
  rw [List.append_nil] at q
  have n1 : us.length = ps.length := by rw [← r.length]; exact F.few _ _ _ _ q
  have b1 := b s1 us I1.kIn (by rw [List.append_nil]; exact n1)
  rw [List.append_nil] at b1
  refine ⟨I1.kIn, wpAny_call (codeAny_mono (F.goes X.A X.stack s1 H1 ⟨us, []⟩ us vs Q E0 gd hr I1.env0 b1 r q) ?_)⟩
  intro rr s2 z
  match rr, z with
  | .error e, z => exact z.elim
  | .ok (.ret u), z => exact I1.after z
  | .ok .next, z => exact z.elim
  | .ok .brk, z => exact z.elim
  | .ok .cont, z => exact z.elim
end
end Lg

set_option Elab.async false
set_option linter.all false
set_option maxRecDepth 100000
set_option maxHeartbeats 4000000
namespace Lg
open PySem PySem.Spec PyProof.Rows L2
/-- what a law's call comes to -/
abbrev Yes (s₁ : Shared) : Result → Shared → Prop := fun r s' => r = .ok (.ret (.bool true)) ∧ OldK s₁.heap s'.heap ∧ s'.os = s₁.os ∧ AllBare s'.gens
section
variable {P : Program} {w : World} {K : PySem.W.Frag} {mg mb : Str → Option Value} {X0 : CXT} {k : Nat} {fa a : Addr} {fd : FuncData} {x : Str} {sp : Sp} {s₁ : Shared} {vs : List Value} {ns : List Int}
/-- from a heap in which at most the script is told -/
theorem law_from (inK : K.In s₁.heap) (gl : s₁.heap.Ns mainGlobals mg) (bl : s₁.heap.Ns builtinsNs mb) (same : ∀ x : Str, x ≠ "__name__" → mb x = bootBuiltins x) (free : s₁.heap.NoLimit) (none_ : s₁.gens = #[])
    (script : s₁.heap.get? a = some { cls := .type "list", data := .seq vs.toArray }) (room : Room k callerA) (F : ∀ B : Heap, K.In B → B.Ns mainGlobals mg → FnG P w K mg B X0 k fa fd [x] sp)
    (bt : ∀ (s : Shared) (u : Value), BindsTo s fd ⟨[u], []⟩ [(x, u)]) (no : ∀ H e s', X0 [] H s₁ (fun _ _ _ => False) e s' → False) (H : Hp) (only : Only H) (pr : sp [.ref a] H (fun v _ => v = .bl true) fun _ _ _ => False)
    (ok : HOk P w H s₁.heap) (told : ∀ b u, H b = some u → b = a) (out : ∀ u, H a = some u → K.lookup a = none) : codeAny (model P w) callerA (.call (.ref fa) ⟨[.ref a], []⟩) (Yes s₁) s₁ := by
  have low : ∀ {b : Addr} {o : Obj}, s₁.heap.get? b = some o → (∀ u, H b ≠ some u) → (hidT s₁.heap H).get? b = some o := by
    intro b o q n
    refine hidT_get q ?_
    match hb : H b with
    | none => rfl
    | some u => exact absurd hb (n u)
  have names : ∀ {b : Addr} {m : Str → Option Value}, s₁.heap.Ns b m → (hidT s₁.heap H).Ns b m := by
    rintro b m ⟨o, es, ep, q, d, r⟩
    refine ⟨o, es, ep, low q fun u z => ?_, d, r⟩
    cases told b u z
    rw [script] at q
    cases q
    exact absurd (show Data.seq vs.toArray _ = Data.dict es ep from d) (fun z => by cases z)
  have inB : K.In (hidT s₁.heap H) := fun b o q => low (inK b o q) fun u z => by
    cases told b u z
    rw [out u z] at q
    cases q
  have md : Mod K mg (hidT s₁.heap H) := by
    obtain ⟨mc, c1, c2⟩ := free
    exact ⟨inB, names gl, ⟨mb, names bl, same⟩, ⟨mc, names c1, c2⟩⟩
  have nil : ∀ b : Addr, b ∉ frs ([] : List Env) := fun b z => by cases z
  have e0 : Env0 P w K mg (hidT s₁.heap H) callerA [] s₁ H := ⟨rfl, md, fun b o q => of_hidT q, Nat.le_of_eq (hidT_size _ _), trivial, fun b z => absurd z (nil b), ok, .of_eq none_⟩
  apply codeAny_mono ((F _ inB (names gl)).goes callerA [] s₁ H ⟨[.ref a], []⟩ [.ref a] [.ref a] _ _ rfl room e0 (bt s₁ (.ref a)) (.cons rfl .nil) pr)
  intro r s' z
  match r, z with
  | .error e, z => exact (no H e s' z).elim
  | .ok .next, z => exact z.elim
  | .ok .brk, z => exact z.elim
  | .ok .cont, z => exact z.elim
  | .ok (.ret u), z =>
    obtain ⟨v, G, os, bare, un, ok2, r2, q⟩ := z
    cases (show v = .bl true from q)
    cases (show u = Value.bool true from r2)
    refine ⟨rfl, OldK.of_keep ?_, os, bare⟩
    intro b o hb
    rcases only b with n | ⟨ob, xs, y⟩
    · exact un.keep b o hb n (nil b) (fun z => by cases z)
    · have y1 := (ok b _ y).1
      have y2 := (ok2 b _ (un.frzs b ob _ y)).1
      rw [hb] at y1
      cases y1
      exact y2
theorem law_goes (inK : K.In s₁.heap) (gl : s₁.heap.Ns mainGlobals mg) (bl : s₁.heap.Ns builtinsNs mb) (same : ∀ x : Str, x ≠ "__name__" → mb x = bootBuiltins x) (free : s₁.heap.NoLimit) (none_ : s₁.gens = #[])
    (script : s₁.heap.get? a = some { cls := .type "list", data := .seq vs.toArray }) (whole : IntsAre vs ns) (few : ns.length ≤ sizeLine) (room : Room k callerA) (F : ∀ B : Heap, K.In B → B.Ns mainGlobals mg → FnG P w K mg B X0 k fa fd [x] sp)
    (bt : ∀ (s : Shared) (u : Value), BindsTo s fd ⟨[u], []⟩ [(x, u)]) (pr : ∀ H : Hp, Only H → SqL K H a (ns.map V.int) → sp [.ref a] H (fun v _ => v = .bl true) fun _ _ _ => False)
    (no : ∀ H e s', X0 [] H s₁ (fun _ _ _ => False) e s' → False) : codeAny (model P w) callerA (.call (.ref fa) ⟨[.ref a], []⟩) (Yes s₁) s₁ := by
  have rel := vals_ints whole
  have n := whole.length
  by_cases hk : K.lookup a = none
  · have at_a : ∀ b : Addr, b = a → (if b = a then some (HO.frz { cls := .type "list", data := .seq vs.toArray } (.lst (ns.map V.int))) else none) = some (.frz { cls := .type "list", data := .seq vs.toArray } (.lst (ns.map V.int))) := fun b e => if_pos e
    have off : ∀ b : Addr, b ≠ a → (if b = a then some (HO.frz { cls := .type "list", data := .seq vs.toArray } (.lst (ns.map V.int))) else none) = none := fun b e => if_neg e
    have only : Only fun b => if b = a then some (HO.frz { cls := .type "list", data := .seq vs.toArray } (.lst (ns.map V.int))) else none := fun b => by
      rcases Decidable.em (b = a) with e | e
      · exact .inr ⟨_, _, at_a b e⟩
      · exact .inl (off b e)
    refine law_from inK gl bl same free none_ script room F bt no _ only (pr _ only (.inl (.inr ⟨_, at_a a rfl⟩))) ?_ ?_ fun _ _ => hk
    · intro b u z
      try dsimp only at z
      rcases Decidable.em (b = a) with e | e
      · rw [at_a b e] at z
        cases z
        cases e
        exact ⟨script, by rw [List.length_map]; exact few, vs, _, rel, script⟩
      · rw [off b e] at z
        cases z
    · intro b u z
      try dsimp only at z
      rcases Decidable.em (b = a) with e | e
      · exact e
      · rw [off b e] at z
        cases z
  · obtain ⟨o, ho⟩ := Option.ne_none_iff_exists'.mp hk
    have q := inK a o ho
    rw [script] at q
    cases q
    have only : Only fun _ => none := fun _ => .inl rfl
    refine law_from inK gl bl same free none_ script room F bt no _ only (pr _ only (.inr ⟨_, vs.toArray, _, ho, rfl, rfl, rfl, ?_, ?_⟩)) ?_ ?_ ?_
    · rw [List.size_toArray, n]; exact few
    · simpa using rel
    · exact fun b u z => nomatch (show (none : Option HO) = some u from z)
    · exact fun b u z => nomatch (show (none : Option HO) = some u from z)
    · exact fun u z => nomatch (show (none : Option HO) = some u from z)
end
/-- the goal that is left of a law -/
theorem walk_G {l : PySem.W.OpenLaw} {n k : Nat} {q : Program} {loose : List Str} {XP : (Str → Option Value) → Heap → Prop} {YP : World → Heap → Prop} {d : DefRec} {X0 : CXT} {x : Str} (hn : l.most = some n) (hn2 : n ≤ sizeLine) (hdf : d.params.defaults = []) (room : Room k callerA)
    (F : ∀ (w : World) (mg : Str → Option Value) (fa : Addr) (h : Heap), YP w h → h.Ns mainGlobals mg → mg d.name = some (.ref fa) → ∃ (K : PySem.W.Frag) (fd : FuncData) (sp : Sp), K.In h ∧ (∀ (s : Shared) (u : Value), BindsTo s fd ⟨[u], []⟩ [(x, u)]) ∧
      (∀ (H : Hp) (a : Addr) (ns : List Int), ns.length ≤ n → Only H → SqL K H a (ns.map V.int) → sp [.ref a] H (fun v _ => v = .bl true) fun _ _ _ => False) ∧ ∀ B : Heap, K.In B → B.Ns mainGlobals mg → FnG l.prog w K mg B X0 k fa fd [x] sp)
    (no : ∀ (H : Hp) (s : Shared) (e : Value) (s' : Shared), X0 [] H s (fun _ _ _ => False) e s' → False) : PySem.W.WalkO q loose XP YP l.row.toRowW d [] (fun f vs => PySem.call f vs) := by
  apply Att.attach_call hn hdf
  intro w s₀ s₁ mg mb fa o pm cd doc a vs ns G Y ho hd hcd hmg hobj hints hlen hg
  obtain ⟨K, fd, sp, inK, bt, pr, go⟩ := F w mg fa _ Y G.T.g hmg
  exact law_goes inK G.T.g G.T.b G.T.builtins G.T.nolimit hg hobj hints (Nat.le_trans hlen hn2) room go bt (fun H o s => pr H a ns hlen o s) fun H e s' => no H s₁ e s'
end Lg

set_option Elab.async false
set_option linter.all false
set_option maxRecDepth 100000
set_option maxHeartbeats 4000000
namespace Lg
open PySem PySem.Spec PyProof.Rows L2
/-! values as data, dicts too -/
def kD : Key → PyData
  | .inl i => .int i
  | .inr z => .str z
mutual
inductive Da (H : Hp) : V → PyData → Prop where
  | non : Da H .non .none
  | bl (b : Bool) : Da H (.bl b) (.bool b)
  | int (i : Int) : Da H (.int i) (.int i)
  | str (z : Str) : Da H (.str z) (.str z)
  | lst {a : Addr} {xs : List V} {ds : List PyData} (h : H a = some (.lst xs)) (all : DaAll H xs ds) : Da H (.ref a) (.list ds)
  | tup {a : Addr} {xs : List V} {ds : List PyData} (h : H a = some (.tup xs)) (all : DaAll H xs ds) : Da H (.ref a) (.tuple ds)
  | dic {a : Addr} {kvs : List (Key × V)} {ds : List PyData} (h : H a = some (.dK kvs)) (all : DaAll H (kvs.map (·.2)) ds) : Da H (.ref a) (.dict ((kvs.map fun p => kD p.1).zip ds))
inductive DaAll (H : Hp) : List V → List PyData → Prop where
  | nil : DaAll H [] []
  | cons {v : V} {vs : List V} {d : PyData} {ds : List PyData} (h : Da H v d) (all : DaAll H vs ds) : DaAll H (v :: vs) (d :: ds)
end
mutual
theorem Da.same {H G : Hp} (s : Same H G) : ∀ {v : V} {d : PyData}, Da H v d → Da G v d
  | _, _, .non => .non
  | _, _, .bl b => .bl b
  | _, _, .int i => .int i
  | _, _, .str z => .str z
  | _, _, .lst h all => .lst (s _ _ h) (DaAll.same s all)
  | _, _, .tup h all => .tup (s _ _ h) (DaAll.same s all)
  | _, _, .dic h all => .dic (s _ _ h) (DaAll.same s all)
theorem DaAll.same {H G : Hp} (s : Same H G) : ∀ {vs : List V} {ds : List PyData}, DaAll H vs ds → DaAll G vs ds
  | _, _, .nil => .nil
  | _, _, .cons h all => .cons (Da.same s h) (DaAll.same s all)
end
theorem DaAll.length {H : Hp} : ∀ {vs : List V} {ds : List PyData}, DaAll H vs ds → vs.length = ds.length
  | _, _, .nil => rfl
  | _, _, .cons _ all => by rw [List.length_cons, List.length_cons, DaAll.length all]
/-- the interpreter's own table of modules stands in K -/
def SysIn (K : PySem.W.Frag) : Prop := ∃ o, K.lookup sysModules = some o ∧ o.cls = .type "dict"
section
variable {X : Cx} {pins : List (Addr × Obj)} {σ : L2.St} {H : Hp} {s : Shared}
theorem key_reads {h : Heap} {k : Key} {u : Value} (e : (mixKind X.prog X.w).is k u = true) : Reads h u (kD k) [] := by
  rcases keyIs_shape e with ⟨i, t, rfl, rfl⟩ | ⟨z, t, rfl, rfl⟩
  · exact Reads.int i t
  · exact Reads.str z t
theorem ne_sys (I : Inv X pins σ H s) (y : SysIn X.K) {a : Addr} {o : Obj} (h : s.heap.get? a = some o) (c : o.cls ≠ .type "dict") : sysModules ≠ a := by
  rintro rfl
  obtain ⟨u, hu, cu⟩ := y
  have q := I.kIn _ _ hu
  rw [h] at q
  cases q
  exact c cu
theorem keys_read {h : Heap} : ∀ {es : List DictEntry} {kvs : List (Key × Value)}, Pairs (mixKind X.prog X.w) es kvs → ReadsAll h (es.map (·.key)) (kvs.map fun p => kD p.1) [] ∧ es.map (·.val) = kvs.map (·.2)
  | _, _, .nil => ⟨.nil, rfl⟩
  | _, _, .cons k v r => by
    obtain ⟨r1, r2⟩ := keys_read (h := h) r
    exact ⟨ReadsAll.cons (key_reads k) r1, by rw [List.map_cons, List.map_cons, r2, v]⟩
theorem kv_split : ∀ {kvs : List (Key × V)} {vs : List (Key × Value)}, KV kvs vs → vs.map (fun p => kD p.1) = kvs.map (fun p => kD p.1) ∧ Vals (kvs.map (·.2)) (vs.map (·.2))
  | _, _, .nil => ⟨rfl, .nil⟩
  | _, _, .cons h r => by
    obtain ⟨r1, r2⟩ := kv_split r
    exact ⟨by rw [List.map_cons, List.map_cons, r1, h.1], .cons h.2 r2⟩
theorem zip_fst : ∀ {as bs : List PyData}, as.length = bs.length → (as.zip bs).map (·.1) = as ∧ (as.zip bs).map (·.2) = bs
  | [], [], _ => ⟨rfl, rfl⟩
  | a :: as, b :: bs, h => by
    obtain ⟨r1, r2⟩ := zip_fst (as := as) (bs := bs) (by simpa using h)
    exact ⟨by rw [List.zip_cons_cons, List.map_cons, r1], by rw [List.zip_cons_cons, List.map_cons, r2]⟩
mutual
theorem Da.reads (I : Inv X pins σ H s) (y : SysIn X.K) : ∀ {v : V} {d : PyData} {u : Value}, Da H v d → RelV v u → ∃ as, Reads s.heap u d as ∧ sysModules ∉ as
  | _, _, u, .non, r => by cases (show u = Value.none from r); exact ⟨_, Reads.none, List.not_mem_nil⟩
  | _, _, u, .bl b, r => by cases (show u = Value.bool b from r); exact ⟨_, Reads.bool b, List.not_mem_nil⟩
  | _, _, u, .int i, r => by obtain ⟨t, e⟩ := (show ∃ t, u = Value.int i t from r); cases e; exact ⟨_, Reads.int i t, List.not_mem_nil⟩
  | _, _, u, .str z, r => by obtain ⟨t, e⟩ := (show ∃ t, u = Value.str z t from r); cases e; exact ⟨_, Reads.str z t, List.not_mem_nil⟩
  | _, _, u, .lst (a := a) (xs := xs) h all, r => by
    cases (show u = Value.ref a from r)
    obtain ⟨_, its, n, rv, ho⟩ := (show ObjOk X.prog X.w H s.heap a (.lst xs) from I.hok a _ h)
    obtain ⟨as, q, n1⟩ := DaAll.reads I y all rv
    refine ⟨_, Reads.list ho rfl rfl (by simpa using q), ?_⟩
    rintro (_ | _)
    · exact ne_sys I y ho (by simp) rfl
    · rename_i z; exact n1 z
  | _, _, u, .tup (a := a) (xs := xs) h all, r => by
    cases (show u = Value.ref a from r)
    obtain ⟨_, its, rv, o, ho, hc, n, hd⟩ := (show ObjOk X.prog X.w H s.heap a (.tup xs) from I.hok a _ h)
    obtain ⟨as, q, n1⟩ := DaAll.reads I y all rv
    exact ⟨_, Reads.tuple ho hc hd (by simpa using q), n1⟩
  | _, _, u, .dic (a := a) (kvs := kvs) (ds := ds) h all, r => by
    cases (show u = Value.ref a from r)
    obtain ⟨_, ns, vs, kv, o, es, ep, ho, hx, hd, _, ps, _⟩ := (show ObjOk X.prog X.w H s.heap a (.dK kvs) from I.hok a _ h)
    obtain ⟨k1, k2⟩ := keys_read (h := s.heap) ps
    obtain ⟨k3, k4⟩ := kv_split kv
    obtain ⟨as, q, n1⟩ := DaAll.reads I y all k4
    have ln : (kvs.map fun p => kD p.1).length = ds.length := by rw [List.length_map, ← all.length, List.length_map]
    obtain ⟨z1, z2⟩ := zip_fst ln
    refine ⟨_, Reads.dict ho hx.1 hd (as := []) (by rw [z1, ← k3]; exact k1) (by rw [z2, k2]; exact q), ?_⟩
    rintro (_ | _)
    · exact absurd ns (by simp)
    · rename_i z; exact n1 z
theorem DaAll.reads (I : Inv X pins σ H s) (y : SysIn X.K) : ∀ {vs : List V} {ds : List PyData} {us : List Value}, DaAll H vs ds → Vals vs us → ∃ as, ReadsAll s.heap us ds as ∧ sysModules ∉ as
  | _, _, _, .nil, .nil => ⟨_, ReadsAll.nil, List.not_mem_nil⟩
  | _, _, _, .cons h all, .cons r rs => by
    obtain ⟨as, q1, n1⟩ := Da.reads I y h r
    obtain ⟨bs, q2, n2⟩ := DaAll.reads I y all rs
    exact ⟨_, ReadsAll.cons q1 q2, fun z => (List.mem_append.mp z).elim n1 n2⟩
end
/-- repr of data -/
def rRepr : List V → Hp → VK → Prop := fun xs H Q => ∃ (v : V) (d : PyData), xs = [v] ∧ Da H v d ∧ d.showable = true ∧ d.depth ≤ 16 ∧ d.shown.length ≤ sizeLine ∧ Q (.str d.shown) H
theorem call_repr (y : SysIn X.K) (g : X.A.guards = some []) (room : X.A.units + 200 < cLine) : CallR X (.builtin "repr") rRepr := by
  intro pins s σ H xs us Q I r h
  obtain ⟨v, d, rfl, hd, hs, dp, sz, q⟩ := h
  obtain ⟨u, rfl, rv⟩ := vals1 r
  obtain ⟨as, rd, nm⟩ := Da.reads I y hd rv
  have big : ∀ b : Addr, u = .ref b → wpAny (model X.prog X.w) X.A (call (.builtin "repr") [u]) (EP X pins σ Q) X.xe s := by
    rintro b rfl
    exact PySem.repr_of_reads' rd hs (fun _ => nm) g (by omega) (fun _ _ e => e) (fun h' t tk kept => ⟨.str _, H, I.kept kept, ⟨t, rfl⟩, q⟩) sz
  cases hd with
  | non => cases (show u = Value.none from rv); exact PySem.P.repr_of_none ⟨.str "None", H, I.tok _, ⟨_, rfl⟩, q⟩
  | bl b => cases (show u = Value.bool b from rv); exact PySem.P.repr_of_bool ⟨.str _, H, I.tok _, ⟨_, rfl⟩, q⟩
  | int i => obtain ⟨t, e⟩ := (show ∃ t, u = Value.int i t from rv); cases e; exact PySem.P.repr_of_int (of_decide_eq_true hs) ⟨.str _, H, I.tok _, ⟨_, rfl⟩, q⟩
  | str z => obtain ⟨t, e⟩ := (show ∃ t, u = Value.str z t from rv); cases e; exact PySem.P.repr_of_str ⟨.str _, H, I.tok _, ⟨_, rfl⟩, q⟩ sz
  | lst h all => exact big _ rv
  | tup h all => exact big _ rv
  | dic h all => exact big _ rv
end
end Lg

set_option Elab.async false
set_option linter.all false
set_option maxRecDepth 100000
set_option maxHeartbeats 4000000
namespace Tr
open PySem PySem.Spec PyProof.Rows L2
/-! rules that the terms of filters need -/
section
variable {X : Cx}
def b2n (b : Bool) : Int := if b = true then 1 else 0
/-- bool - bool -/
theorem op_subBl : OpR X (binaryOp .Sub) (fun x y H Q => ∃ a b : Bool, x = .bl a ∧ y = .bl b ∧ Q (.int (b2n a - b2n b)) H) := by
  intro pins s σ H x y v u Q I rx ry h
  obtain ⟨a, b, rfl, rfl, q⟩ := h
  cases (show v = Value.bool a from rx)
  cases (show u = Value.bool b from ry)
  exact PyProof.Rows.sub_bool ⟨.int _, H, I.tok _, ⟨_, rfl⟩, q⟩
/-- x is b, x None or a bool, b a bool -/
theorem op_isNb : OpR X (compareOp .Is) (fun x y H Q => ∃ (a : Option Bool) (b : Bool), x = (match a with | some c => .bl c | none => .non) ∧ y = .bl b ∧ Q (.bl (decide (a = some b))) H) := by
  intro pins s σ H x y v u Q I rx ry h
  obtain ⟨a, b, rfl, rfl, q⟩ := h
  cases (show u = Value.bool b from ry)
  cases a with
  | none =>
    cases (show v = Value.none from rx)
    exact wpAny_is_other rfl (fun z => by cases z) ⟨.bl false, H, I, rfl, by simpa using q⟩
  | some c =>
    cases (show v = Value.bool c from rx)
    by_cases e : c = b
    · subst e
      exact wpAny_is_self rfl ⟨.bl true, H, I, rfl, by simpa using q⟩
    · exact wpAny_is_other rfl (fun z => e (Value.bool.inj z)) ⟨.bl false, H, I, rfl, by simpa [e] using q⟩
/-- d[k], d a written dict -/
def tKd (K : PySem.W.Frag) (d : Addr) (td ty : TE) : TE := fun σ H Q => td σ H fun x H1 => ty σ H1 fun y H2 => ∃ (z : Str) (u0 : Value) (v0 : V), x = .ref d ∧ y = .str z ∧ PySem.W.nsIn K d z = some (some u0) ∧ RelV v0 u0 ∧ Q v0 H2
theorem pe_kd {o i : Expr} {pos : Pos} {td ty : TE} {d : Addr} {es : Array DictEntry} {n : Nat} (D : KDict X.K X.w d es n) (ho : PE X o td) (hi : PE X i ty) (hs : NoSl i) : PE X (.Subscript o i pos) (tKd X.K d td ty) := by
  constructor
  intro pins s σ H Q I h
  refine subD_of PySem.F.slot_dict_getitem.lookup hs (thn (ho.run pins s σ H _ I h) ?_)
  rintro u s1 ⟨x, H1, I1, rx, q1⟩
  refine thn (hi.run pins s1 σ H1 _ I1 q1) ?_
  rintro iv s2 ⟨y, H2, I2, ry, z, u0, v0, rfl, rfl, e, r, q⟩
  obtain rfl : u = Value.ref d := rx
  exact ⟨kd_type D I2, op_item_kd D pins s2 σ H2 (.ref d) (.str z) (.ref d) iv Q I2 rfl ry ⟨z, u0, v0, rfl, rfl, e, r, q⟩⟩
end
end Tr

set_option Elab.async false
set_option linter.all false
set_option maxRecDepth 100000
set_option maxHeartbeats 4000000
namespace Oe
open PySem PySem.Spec PyProof.Rows L2
/-! == and != of an instance with an own __eq__ -/
/-- what it is compared with, and the type of that -/
inductive Cv (C : Addr) (H : Hp) : V → Value → Prop where
  | ins {b dx : Addr} {fs : List (Str × V)} (h : H b = some (.ins C dx fs)) : Cv C H (.ref b) (.ref C)
  | non : Cv C H .non (.type "NoneType")
  | str (z : Str) : Cv C H (.str z) (.type "str")
  | tup {p : Addr} {xs : List V} (h : H p = some (.tup xs)) : Cv C H (.ref p) (.type "tuple")
  | lst {p : Addr} {xs : List V} (h : H p = some (.lst xs)) : Cv C H (.ref p) (.type "list")
section
variable {X : Cx} {pins : List (Addr × Obj)} {σ : L2.St} {H : Hp} {s : Shared} {C : Addr}
theorem looks_ty {v : Value} {T : String} (h : ∀ s' : Shared, (∀ b o, s.heap.get? b = some o → s'.heap.get? b = some o) → s'.TypeIs v T) : PySem.W.Looks (model X.prog X.w) s.heap (typeOf v) (.type T) :=
  fun A Q E s' kept q => wpAny_typeOf (h s' kept) q
theorem Cv.looks (I : Inv X pins σ H s) {y : V} {u t : Value} (c : Cv C H y t) (r : RelV y u) : PySem.W.Looks (model X.prog X.w) s.heap (typeOf u) t := by
  cases c with
  | @ins b dx fs h =>
    cases (show u = Value.ref b from r)
    obtain ⟨m, J, _⟩ := ins_get I.hok h
    obtain ⟨od, J, _⟩ := J.look
    exact J.type
  | non => cases (show u = Value.none from r); exact looks_ty fun _ _ => rfl
  | str z => obtain ⟨t, e⟩ := (show ∃ t, u = Value.str z t from r); cases e; exact looks_ty fun _ _ => rfl
  | @tup p xs h =>
    cases (show u = Value.ref p from r)
    obtain ⟨_, its, rv, o, ho, hc, n, hd⟩ := (show ObjOk X.prog X.w H s.heap p (.tup xs) from I.hok p _ h)
    exact looks_ty fun s' kept => ⟨o, kept _ _ ho, hc⟩
  | @lst p xs h =>
    cases (show u = Value.ref p from r)
    obtain ⟨_, its, n, rv, ho⟩ := (show ObjOk X.prog X.w H s.heap p (.lst xs) from I.hok p _ h)
    exact looks_ty fun s' kept => ⟨_, kept _ _ ho, rfl⟩
/-- an own def, called below -/
theorem own_call {A : Around} {Ex : Value → Shared → Prop} {k : Nat} {f : Addr} {fd : FuncData} {ps : List Str} {sp : Sp} {us : List Value} {vs : List V} {Q : VK} (fr : A.frames = some X.stack) (room : Room k A) (F : FnOk X.prog X.w X.K X.mg X.base CX0 k f fd ps sp)
    (bt : Binds X.K fd ps []) (I : Inv X pins σ H s) (r : Vals vs us) (pr : sp vs H Q E0) : wpAny (model X.prog X.w) A (call (.ref f) us) (EP X pins σ Q) Ex s := by
  have e := I.env0
  have n : us.length = ps.length := by rw [← r.length]; exact F.len _ _ _ _ pr
  have b1 := bt s us I.kIn (by rw [List.append_nil]; exact n)
  rw [List.append_nil] at b1
  refine wpAny_call (codeAny_mono (F.run A X.stack s H ⟨us, []⟩ us vs Q E0 room ⟨fr, e.mod, e.bs, e.bsz, e.funs, e.frf, e.hok, e.bare⟩ b1 r pr) ?_)
  intro rr s2 z
  match rr, z with
  | .error e, z => exact z.elim
  | .ok (.ret u), z => exact I.after z
  | .ok .next, z => exact z.elim
  | .ok .brk, z => exact z.elim
  | .ok .cont, z => exact z.elim
/-- what a class with an own __eq__ and no own __ne__ has -/
structure EqC (K : PySem.W.Frag) (C f : Addr) : Prop where
  eq : PySem.W.findIn K (.ref C) "__eq__" = some (some (.ref f))
  ne : PySem.W.findIn K (.ref C) "__ne__" = some (some (.builtin "object.__ne__"))
  fn : PySem.W.isFn K (.ref f) = true
  ob : PySem.W.mroIn K C (.type "object") = some true
def rOwn (K : PySem.W.Frag) (C : Addr) (sp : Sp) (g : Bool → Bool) : R2 := fun x y H Q => ∃ (a dx : Addr) (fs : List (Str × V)) (t : Value), x = .ref a ∧ H a = some (.ins C dx fs) ∧ Cv C H y t ∧ PySem.W.notFirst K C t = true ∧
  sp [.ref a, y] H (fun v H' => ∃ b, v = .bl b ∧ Q (.bl (g b)) H') E0
variable {k : Nat} {f : Addr} {fd : FuncData} {ps : List Str} {sp : Sp}
theorem op_eqI (E : EqC X.K C f) (F : FnOk X.prog X.w X.K X.mg X.base CX0 k f fd ps sp) (bt : Binds X.K fd ps []) (room : Room k X.A) : OpR X (compareOp .Eq) (rOwn X.K C sp id) := by
  intro pins s σ H x y u v Q I rx ry h
  obtain ⟨a, dx, fs, t, rfl, ha, c, nf, pr⟩ := h
  cases (show u = Value.ref a from rx)
  obtain ⟨m, J, _⟩ := ins_get I.hok ha
  obtain ⟨od, J, _⟩ := J.look
  have fr := I.ok.frames
  obtain ⟨m2, hF⟩ := I.fr
  show wpAny (model X.prog X.w) X.A (richCompare .Eq (.ref a) v) (EP X pins σ Q) X.xe s
  refine PySem.W.cmp_K (op := .Eq) room.units0 hF I.ok.mod.kin J (c.looks I ry) nf E.eq E.fn (thn (own_call fr room F bt I (vs := [.ref a, y]) (.cons (show RelV (.ref a) (Value.ref a) from rfl) (.cons ry .nil)) pr) ?_)
  rintro r s2 ⟨z, H2, I2, rz, b, rfl, q⟩
  cases (show r = Value.bool b from rz)
  exact ⟨.bl b, H2, I2, rfl, q⟩
/-- object.__ne__ on such an instance: its own __eq__ is asked -/
theorem ne_entry {A : Around} {R : Fin → Shared → Prop} {Ex : Value → Shared → Prop} {a : Addr} {ox : Obj} {od : Option Obj} {u : Value} (hu : A.units < cLine) (E : EqC X.K C f) (KI : X.K.In s.heap) (J : PySem.W.InstAt s.heap a ox C od)
    (h : wpAny (model X.prog X.w) A (call (.ref f) [.ref a, u]) (fun r s' => ∃ b, r = .bool b ∧ R (.done (.ret (.bool (!b)))) s') Ex s) : wpAny (model X.prog X.w) A (Builtin.«object.__ne__» ⟨[.ref a, u], []⟩) R Ex s := by
  unfold Builtin.«object.__ne__»
  show wpAny _ _ (slotArgs "__ne__" 1 ⟨[.ref a, u], []⟩ >>= _) _ _ s
  refine wpAny_bind (wpAny_of_eq (rfl : slotArgs "__ne__" 1 ⟨[.ref a, u], []⟩ = pure (.ref a, [u])) ?_)
  refine wpAny_bind (wpAny_cRoomFor hu (wpAny_bind ?_))
  refine PySem.W.ifBound_K KI J E.eq E.fn (wpAny_mono h ?_ fun _ _ z => z)
  rintro r s' ⟨b, rfl, q⟩
  exact wpAny_bind (wpAny_truthy_bool (wpAny_pure q))
theorem ne_call {A : Around} {R : Value → Shared → Prop} {Ex : Value → Shared → Prop} {a : Addr} {ox : Obj} {od : Option Obj} {u : Value} (hu : A.units + 1 < cLine) (E : EqC X.K C f) (KI : X.K.In s.heap) (J : PySem.W.InstAt s.heap a ox C od)
    (h : wpAny (model X.prog X.w) A.in1 (call (.ref f) [.ref a, u]) (fun r s' => ∃ b, r = .bool b ∧ R (.bool (!b)) s') (fun _ _ => False) s) : wpAny (model X.prog X.w) A (tryCompare (.ref a) "__ne__" u) (fun r s' => ∃ v, r = some v ∧ v ≠ .notImplemented ∧ R v s') Ex s := by
  have run : wpAny (model X.prog X.w) A (call (.builtin "object.__ne__") [.ref a, u]) (fun v s' => ∃ b, v = .bool b ∧ R v s') Ex s := by
    refine wpAny_call (codeAny_call_builtin F.cmp_object.ne.plain F.cmpEntry_ne (PySem.W.check_slot F.cmpKind_ne F.cmpSplit_ne (J.type.andThen (PySem.W.looks_mroIn KI E.ob)) (F.cmpArgs_ne _ _) ?_))
    refine ne_entry (by show A.units + 1 < cLine; exact hu) E KI J (wpAny_mono h ?_ fun _ _ z => z.elim)
    rintro r s' ⟨b, rfl, q⟩
    exact ⟨b, rfl, _, rfl, q⟩
  unfold tryCompare
  have last : wpAny (model X.prog X.w) A (callSpecialIfBound? (.ref a) "__ne__" [u]) (fun r s' => ∃ b, r = some (.bool b) ∧ R (.bool b) s') Ex s := by
    simp only [callSpecialIfBound?, bindSpecialIfBound?]
    refine wpAny_holding (wpAny_bind (wpAny_bind (wpAny_bind (J.type.here ((PySem.W.looks_findIn KI E.ne).here (wpAny_bind (wpAny_askSetting (wpAny_ite ?_))))))))
    have go : wpAny (model X.prog X.w) A (call (.builtin "object.__ne__") ([.ref a] ++ [u]) >>= fun v => pure (some v)) (fun r s' => ∃ b, r = some (.bool b) ∧ R (.bool b) s') Ex s := by
      refine wpAny_bind (wpAny_mono run ?_ fun _ _ z => z)
      rintro v s' ⟨b, rfl, q⟩
      exact wpAny_pure ⟨b, rfl, q⟩
    split
    · exact wpAny_bind (wpAny_of_eq (F.cmp_object.ne.bind _) (wpAny_pure (by exact go)))
    · exact wpAny_tryCatch (wpAny_bind (wpAny_of_eq (F.cmp_object.ne.bind _) (wpAny_pure (by exact go))))
  refine wpAny_bind (wpAny_mono last ?_ fun _ _ z => z)
  rintro r s' ⟨b, rfl, q⟩
  exact wpAny_pure ⟨_, rfl, (fun z => by cases z), q⟩
theorem rich_ne {R : Value → Shared → Prop} {Ex : Value → Shared → Prop} {A : Around} {a : Addr} {ox : Obj} {od : Option Obj} {u t : Value} (hu : A.units < cLine) (KI : X.K.In s.heap) (J : PySem.W.InstAt s.heap a ox C od) (look : PySem.W.Looks (model X.prog X.w) s.heap (typeOf u) t)
    (nf : PySem.W.notFirst X.K C t = true) (h : wpAny (model X.prog X.w) A (tryCompare (.ref a) "__ne__" u) (fun r s' => ∃ v, r = some v ∧ v ≠ .notImplemented ∧ R v s') Ex s) : wpAny (model X.prog X.w) A (richCompare .NotEq (.ref a) u) R Ex s := by
  have sub : t = .ref C ∨ PySem.W.subIn X.K t (.ref C) = some false := (Bool.or_eq_true_iff.mp nf).imp beq_iff_eq.mp beq_iff_eq.mp
  have go : ∀ K2 : Option Value → Sem Value, (∀ v, K2 (some v) = pure v) → wpAny (model X.prog X.w) A (tryCompare (.ref a) "__ne__" u >>= K2) R Ex s := by
    intro K2 e
    refine wpAny_bind (wpAny_mono h ?_ fun _ _ z => z)
    rintro r s' ⟨v, rfl, _, q⟩
    rw [e v]
    exact wpAny_pure q
  unfold richCompare
  simp only [oneThing_ref]
  refine wpAny_holding (wpAny_bind (wpAny_cRoomFor hu (wpAny_bind (J.type.here (wpAny_bind (look.here ?_))))))
  split
  · rename_i q
    rcases sub with e | e
    · rw [e] at q
      simp at q
    · refine wpAny_bind ((PySem.W.looks_subIn KI e).here ?_)
      simp only [Bool.false_eq_true, if_false]
      exact go _ fun _ => rfl
  · refine wpAny_bind (wpAny_pure ?_)
    simp only [Bool.false_eq_true, if_false]
    exact go _ fun _ => rfl
theorem op_neI (E : EqC X.K C f) (F : FnOk X.prog X.w X.K X.mg X.base CX0 k f fd ps sp) (bt : Binds X.K fd ps []) (room : Room (k + 1) X.A) : OpR X (compareOp .NotEq) (rOwn X.K C sp Bool.not) := by
  intro pins s σ H x y u v Q I rx ry h
  obtain ⟨a, dx, fs, t, rfl, ha, c, nf, pr⟩ := h
  cases (show u = Value.ref a from rx)
  obtain ⟨m, J, _⟩ := ins_get I.hok ha
  obtain ⟨od, J, _⟩ := J.look
  have fr := I.ok.frames
  have r1 : Room k X.A.in1 := room.in1
  show wpAny (model X.prog X.w) X.A (richCompare .NotEq (.ref a) v) (EP X pins σ Q) X.xe s
  refine rich_ne room.units0 I.kIn J (c.looks I ry) nf (ne_call r1.units0 E I.kIn J (thn (own_call (A := X.A.in1) fr r1 F bt I (vs := [.ref a, y]) (.cons (show RelV (.ref a) (Value.ref a) from rfl) (.cons ry .nil)) pr) ?_))
  rintro r s2 ⟨z, H2, I2, rz, b, rfl, q⟩
  cases (show r = Value.bool b from rz)
  exact ⟨b, rfl, .bl (!b), H2, I2, rfl, q⟩
end
end Oe

set_option Elab.async false
set_option linter.all false
set_option maxRecDepth 100000
set_option maxHeartbeats 2000000
namespace Ci
open PySem PySem.Spec PyProof.Rows L2
/-! list(o), o an instance whose own __iter__ gives a list's iterator and that has an own __len__ -/
structure ItL (K : PySem.W.Frag) (C fi fl : Addr) : Prop where
  it : PySem.W.findIn K (.ref C) "__iter__" = some (some (.ref fi))
  itF : PySem.W.isFn K (.ref fi) = true
  ln : PySem.W.findIn K (.ref C) "__len__" = some (some (.ref fl))
  lnF : PySem.W.isFn K (.ref fl) = true
section
variable {X : Cx} {pins : List (Addr × Obj)} {σ : L2.St} {H : Hp} {s : Shared} {A : Around} {E : Value → Shared → Prop} {it l : Addr} {i : Nat} {zs : List V}
theorem next_it {Q : Option Value → Shared → Prop} (I : Inv X pins σ H s) (ei : H it = some (ItO l it i)) (el : SqL X.K H l zs) {v : V} (hv : zs[i]? = some v)
    (fin : ∀ u s', Inv X pins σ (upd H it (ItO l it (i + 1))) s' → RelV v u → Q (some u) s') : wpAny (model X.prog X.w) A (pyNext (.ref it)) Q E s := by
  obtain ⟨its, rv, pl, hz⟩ := I.list el
  have hT : s.TypeIs (.ref it) "list_iterator" := ⟨_, itO_get I ei, rfl⟩
  have mu : Mut (H it) := by rw [ei]; exact True.intro
  obtain ⟨w', hw, rw'⟩ := rv.get hv
  unfold pyNext
  refine wpAny_bind (wpAny_attempt (wpAny_callSpecial?_slot (name := Str.ofString "__next__") hT slot_listiter_next (wpAny_call_entry slot_listiter_next hT entry_listiter_next (GNX.next_item (itO_get I ei) pl.isList (by rw [List.getElem?_toArray]; exact hw) fun h' e' sb => ?_) (args_listiter_next _))))
  exact wpAny_pure (fin _ _ (I.write (x := it) (e := it) (t' := s.toks) mu (.inl rfl) (fun b o nb z => (sb.2 b nb).trans z) ⟨_, e'⟩ (itO_ok e')) rw')
theorem next_no {Q : Option Value → Shared → Prop} (hh : A.handled = none) (I : Inv X pins σ H s) (ei : H it = some (ItO l it i)) (el : SqL X.K H l zs) (hv : zs[i]? = none)
    (fin : ∀ s', Inv X pins σ (upd H it (ItE it i)) s' → Q none s') : wpAny (model X.prog X.w) A (pyNext (.ref it)) Q E s := by
  obtain ⟨its, rv, pl, hz⟩ := I.list el
  have hT : s.TypeIs (.ref it) "list_iterator" := ⟨_, itO_get I ei, rfl⟩
  have mu : Mut (H it) := by rw [ei]; exact True.intro
  unfold pyNext
  refine wpAny_bind (wpAny_attempt (wpAny_callSpecial?_slot (name := Str.ofString "__next__") hT slot_listiter_next (wpAny_call_entry slot_listiter_next hT entry_listiter_next (GNX.next_end (A := A) hh (itO_get I ei) pl.isList (by rw [List.getElem?_toArray]; exact rv.none_of hv) fun h1 h' e vs e1 sb k ne he' hv2 => ?_) (args_listiter_next _))))
  have I2 : Inv X pins σ (upd H it (ItE it i)) { s with heap := h1 } := I.write (x := it) (e := it) (t' := s.toks) mu (.inl rfl) (fun b o nb z => (sb.2 b nb).trans z) ⟨_, e1⟩ (itE_ok e1)
  exact wpAny_bind (wpAny_isInstance (T := "StopIteration") (b := true) ⟨_, he', rfl⟩ isSubtype_stop (wpAny_pure (fin _ (I2.kept (t' := s.toks) k))))
theorem loop_it {A1 : Around} {Rs : Result → Shared → Prop} {q : Addr} (hh : A1.in1.handled = none) (ql : q ≠ l) (few : zs.length < sizeLine) : ∀ (m i : Nat) (H : Hp) (s : Shared), zs.length - i = m → i ≤ zs.length → Inv X pins σ H s → H it = some (ItO l it i) → H l = some (.lst zs) → H q = some (.lst (zs.take i)) →
    (∀ H' s', Inv X pins σ H' s' → H' q = some (.lst zs) → (∀ b o, b ≠ q → b ≠ it → H b = some o → H' b = some o) → Rs (.ok (.ret .none)) s') → codeAny (model X.prog X.w) A1 (.builtin "list.extend.loop" ⟨[.ref q, .ref it, .none], []⟩) Rs s := by
  intro m
  induction m with
  | zero =>
    intro i H s hm hi I ei el hq done
    have e : i = zs.length := by omega
    refine codeAny_builtin PySem.F.entry_extend_loop ?_
    rw [Around.under_plainId PySem.F.plain_extend_loop _]
    show wpAny _ A1.in1 (pyNext (.ref it) >>= _) _ _ s
    have nq : q ≠ it := fun z => by
      subst z
      rw [ei] at hq
      cases hq
    refine wpAny_bind (next_no hh I ei (SqL.of el) (List.getElem?_eq_none (by omega)) fun s' I' => ?_)
    refine wpAny_pure (done _ s' I' ?_ fun b o n1 n2 h => ?_)
    · rw [upd_ne nq, hq, e, List.take_length]
    · rw [upd_ne n2]
      exact h
  | succ m ih =>
    intro i H s hm hi I ei el hq done
    have hlt : i < zs.length := by omega
    have hv : zs[i]? = some zs[i] := List.getElem?_eq_getElem hlt
    refine codeAny_builtin PySem.F.entry_extend_loop ?_
    rw [Around.under_plainId PySem.F.plain_extend_loop _]
    show wpAny _ A1.in1 (pyNext (.ref it) >>= _) _ _ s
    have nq : q ≠ it := fun z => by
      subst z
      rw [ei] at hq
      cases hq
    refine wpAny_bind (next_it I ei (SqL.of el) hv fun u s' I' rv => ?_)
    show wpAny _ A1.in1 (updateSeq q (·.push u) >>= _) _ _ _
    have hq' : (upd H it (ItO l it (i + 1))) q = some (.lst (zs.take i)) := by rw [upd_ne nq]; exact hq
    obtain ⟨z, its, k, r2, hl, e⟩ := I'.lstM hq'
    have hl2 : its.length = (zs.take i).length := hl.symm
    rw [List.length_take] at hl2
    refine wpAny_bind (wpAny_updateSeq e rfl (wpAny_pure ⟨plainId_quiet PySem.F.plain_extend_loop _, ?_⟩) (by rw [List.size_toArray]; omega) (by show (its.toArray.push u).size ≤ sizeLine + 1; rw [Array.size_push, List.size_toArray]; omega))
    have I3 := I'.lset (f := (·.push u)) (its' := its ++ [u]) (ys := zs.take i ++ [zs[i]]) (t' := s'.toks) hq' e (by simp) (r2.append (.cons rv .nil)) (by rw [List.length_append, List.length_singleton, List.length_take]; omega)
    have tk : zs.take (i + 1) = zs.take i ++ [zs[i]] := by rw [List.take_add_one, hv]; rfl
    have ei3 : (upd (upd H it (ItO l it (i + 1))) q (.lst (zs.take i ++ [zs[i]]))) it = some (ItO l it (i + 1)) := by rw [upd_ne nq.symm, upd_same]
    have lit : l ≠ it := fun z => by
      subst z
      rw [ei] at el
      cases el
    refine ih (i + 1) _ _ (by omega) hlt I3 ei3 ?_ (by rw [upd_same, tk]) fun H' s2 I2 h2 kp => done H' s2 I2 h2 fun b o n1 n2 h => kp b o n1 n2 (by rw [upd_ne n1, upd_ne n2]; exact h)
    rw [upd_ne ql.symm, upd_ne lit]
    exact el
/-- the length, told by an own __len__ -/
theorem hint {k : Nat} {fl C a : Addr} {fd : FuncData} {ps : List PySem.Str} {sp : Sp} {dx : Addr} {fs : List (PySem.Str × V)} {fi : Addr} {Q : Bool → Shared → Prop} (W : ItL X.K C fi fl) (fr : A.in1.frames = some X.stack) (room : Room k A.in1) (F : FnOk X.prog X.w X.K X.mg X.base CX0 k fl fd ps sp) (bt : Binds X.K fd ps [])
    (I : Inv X pins σ H s) (ha : H a = some (.ins C dx fs)) (pr : sp [.ref a] H (fun v G => ∃ n : Nat, n ≤ 100000 ∧ v = .int (n : Nat) ∧ G = H) E0) (fin : ∀ b s', Inv X pins σ H s' → Q b s') :
    wpAny (model X.prog X.w) A (Builtin.List.listLengthHint (.ref a)) Q E s := by
  obtain ⟨mA, J, _⟩ := ins_get I.hok ha
  obtain ⟨od, J, _⟩ := J.look
  obtain ⟨m0, hF⟩ := I.fr
  unfold Builtin.List.listLengthHint
  refine wpAny_bind (wpAny_bind (J.type.here ((PySem.W.looks_findIn I.kIn W.ln).here ?_)))
  refine PySem.W.KFB.if_not rfl ?_
  refine PySem.W.KFB.if_so rfl ?_
  refine wpAny_bind (wpAny_rule ?_)
  refine wpAny_bind (wpAny_attempt (PySem.W.len_K hF I.ok.mod.kin J W.ln W.lnF ?_))
  refine wpAny_mono (Oe.own_call (A := A.in1) fr room F bt (I.tok _) (vs := [.ref a]) (.cons (show RelV (.ref a) (Value.ref a) from rfl) .nil) pr) (fun u s' hu => ?_) fun _ _ z => z
  obtain ⟨v, G, I', rv, n, hn, rfl, rfl⟩ := hu
  obtain ⟨t, rfl⟩ := rv
  refine ⟨⟨by omega, by omega⟩, ?_⟩
  dsimp only
  refine wpAny_bind (m := asInt? (.int (n : Nat) _)) (wpAny_pure ?_)
  dsimp only
  have short : Builtin.List.listTooLong ((n : Nat) : Int).toNat = false := by
    unfold Builtin.List.listTooLong
    have h9 : sizeLine = 16777216 := by decide
    rw [Int.toNat_natCast]
    exact decide_eq_false (by omega)
  rw [if_neg (by rw [short]; exact Bool.false_ne_true)]
  exact wpAny_pure (fin _ _ (I'.tok _))
/-- what list(o) asks and gives -/
def rListI (C : Addr) (spI spL : Sp) : List V → Hp → VK → Prop := fun xs H Q => ∃ (a dx : Addr) (fs : List (PySem.Str × V)) (l : Addr) (zs : List V), xs = [V.ref a] ∧ H a = some (.ins C dx fs) ∧ H l = some (.lst zs) ∧ zs.length ≤ 100000 ∧
  (∀ G, (∀ b o, H b = some o → G b = some o) → spI [.ref a] G (fun v G' => ∃ it, v = .ref it ∧ G it = none ∧ G' = upd G it (ItO l it 0)) E0) ∧
  (∀ G, (∀ b o, H b = some o → G b = some o) → spL [.ref a] G (fun v G' => ∃ n : Nat, n ≤ 100000 ∧ v = .int (n : Nat) ∧ G' = G) E0) ∧
  ∀ q G, H q = none → (∀ b o, H b = some o → G b = some o) → G q = some (.lst zs) → Q (.ref q) G
theorem call_listI {k : Nat} {C fi fl : Addr} {fdI fdL : FuncData} {psI psL : List PySem.Str} {spI spL : Sp} (hc : X.calm = true) (W : ItL X.K C fi fl) (FI : FnOk X.prog X.w X.K X.mg X.base CX0 k fi fdI psI spI) (bI : Binds X.K fdI psI []) (FL : FnOk X.prog X.w X.K X.mg X.base CX0 k fl fdL psL spL) (bL : Binds X.K fdL psL []) (hr : Room (k + 3) X.A) : CallR X (.type "list") (rListI C spI spL) := by
  intro pins s σ H xs us Q I rv h
  obtain ⟨a, dx, fs, l, zs, rfl, ha, hl, few, pI, pL, fin⟩ := h
  obtain ⟨u, rfl, ru⟩ := rv.one
  cases ru
  have sb2 : Sub X (k + 1) X.A.in1.in1 := Sub.in1 (Sub.in1 (⟨hr, rfl⟩ : Sub X (k + 3) X.A))
  have sb3 : Sub X k X.A.in1.in1.in1 := Sub.in1 sb2
  refine callType_codes (Q₁ := fun obj s₁ => obj = .ref s.heap.objs.size ∧ s₁ = { s with heap := s.heap.push { cls := .type "list", data := .seq #[] } }) PySem.F.called_list (PySem.F.typeCall_list_1 _) PySem.F.entry_list_init
    (code_list_new _ ⟨rfl, rfl⟩) fun obj s₁ h₁ => ?_
  obtain ⟨rfl, rfl⟩ := h₁
  have hS : (s.heap.push { cls := .type "list", data := .seq #[] }).get? s.heap.objs.size = some { cls := .type "list", data := .seq #[] } := Heap.get?_push_size _ rfl
  refine ⟨⟨_, hS, rfl⟩, PySem.F.args_list_init_2 _ _, ?_⟩
  have fr : H s.heap.objs.size = none := I.hok.fresh (Nat.le_refl _)
  have I1 : Inv X pins σ (upd H s.heap.objs.size (.lst [])) { s with heap := s.heap.push { cls := .type "list", data := .seq #[] } } := I.lnew (its := []) (t' := s.toks) .nil (Nat.zero_le _)
  show wpAny _ _ (do let old ← Builtin.List.listItems (.ref s.heap.objs.size); Builtin.List.listUpdate (.ref s.heap.objs.size) (fun _ => #[]); letGo old.toList.reverse; Builtin.List.listExtendWith (.ref s.heap.objs.size) (.ref a) .none) _ _ _
  refine wpAny_bind ?_
  unfold Builtin.List.listItems
  refine wpAny_bind (wpAny_seqItems hS rfl (wpAny_pure ?_))
  show wpAny _ _ (updateSeq s.heap.objs.size (fun _ => #[]) >>= fun _ => letGo (#[] : Array Value).toList.reverse >>= fun _ => Builtin.List.listExtendWith (.ref s.heap.objs.size) (.ref a) .none) _ _ _
  refine wpAny_bind (wpAny_updateSeq hS rfl ?_)
  have I2 := I1.lset (f := fun _ => #[]) (its := []) (its' := []) (ys := []) (t' := s.toks) upd_same hS rfl .nil (Nat.zero_le _)
  rw [upd_upd] at I2
  refine wpAny_bind (wpAny_letGo ?_)
  generalize s.heap.objs.size = q at I2 fr ⊢
  have ha2 : upd H q (.lst []) a = some (.ins C dx fs) := by rw [upd_ne (ne_of_none ha fr)]; exact ha
  have hne : q ≠ a := (ne_of_none ha fr).symm
  have hql : q ≠ l := (ne_of_none hl fr).symm
  have kq : ∀ b o, H b = some o → (upd H q (.lst [])) b = some o := fun b o e => by rw [upd_ne (ne_of_none e fr)]; exact e
  have hq : (upd H q (.lst [])) q = some (.lst []) := upd_same
  have hl2 := kq _ _ hl
  generalize upd H q (.lst []) = G at I2 ha2 kq hq hl2
  obtain ⟨mA, J, _⟩ := ins_get I2.hok ha2
  obtain ⟨od, J, _⟩ := J.look
  obtain ⟨m0, hF⟩ := I2.fr
  unfold Builtin.List.listExtendWith
  refine wpAny_bind (J.type.here ?_)
  have h1 : Builtin.List.listSameRef (.ref q) (.ref a) = false := by simp [Builtin.List.listSameRef, hne]
  have h2 : (Value.ref C == Value.type "list") = false := rfl
  have h3 : (Value.ref C == Value.type "tuple") = false := rfl
  simp only [h1, h2, h3, Bool.or_false, Bool.false_eq_true, if_false]
  refine wpAny_bind (PySem.W.owit_iter hF I2.ok.mod.kin J W.it W.itF ?_)
  refine wpAny_mono (Oe.own_call (A := X.A.in1.in1) (sb2.fr.trans I2.ok.frames) (sb2.room.mono (Nat.le_succ k)) FI bI I2 (vs := [.ref a]) (.cons (show RelV (.ref a) (Value.ref a) from rfl) .nil) (pI G kq)) (fun u s' hu => ?_) fun _ _ z => z
  obtain ⟨v, G', I3, rv, itx, rfl, nit, rfl⟩ := hu
  obtain rfl : u = Value.ref itx := rv
  have ei : (upd G itx (ItO l itx 0)) itx = some (ItO l itx 0) := upd_same
  have kt : ∀ b o, G b = some o → (upd G itx (ItO l itx 0)) b = some o := fun b o e => by rw [upd_ne (ne_of_none e nit)]; exact e
  have ha3 := kt _ _ ha2
  have hl3 := kt _ _ hl2
  have hq3 := kt _ _ hq
  generalize upd G itx (ItO l itx 0) = G3 at I3 ei kt ha3 hl3 hq3
  unfold PySem.W.OwitIt
  refine wpAny_specialOf (name := Str.ofString "__next__") ⟨_, itO_get I3 ei, rfl⟩ slot_listiter_next.lookup ?_
  dsimp only
  have h9 : sizeLine = 16777216 := by decide
  refine wpAny_bind (wpAny_holding (hint (A := X.A.in1.in1) W (sb3.fr.trans I3.ok.frames) sb3.room FL bL I3 ha3 (pL G3 fun b o e => kt _ _ (kq _ _ e)) fun b s4 I4 => ?_))
  have done : ∀ s5, Inv X pins σ G3 s5 → codeAny (model X.prog X.w) X.A.in1 (.builtin "list.extend.loop" ⟨[.ref q, .ref itx, .none], []⟩) (wants (fun r s₂ => r = .none ∧ EP X pins σ Q (.ref q) s₂) X.xe) s5 := fun s5 I5 =>
    loop_it (A1 := X.A.in1) (show X.A.in1.in1.handled = none from I.ok.hd hc) hql (by omega) _ 0 G3 s5 rfl (Nat.zero_le _) I5 ei hl3 hq3 fun H' s' I' h' kp => ⟨rfl, .ref q, H', I', rfl, fin q H' fr (fun b o e => kp b o (ne_of_none e fr) (ne_of_none (kq _ _ e) nit) (kt _ _ (kq _ _ e))) h'⟩
  refine wpAny_ite_split (fun _ => ?_) (fun _ => wpAny_pure ⟨plainId_quiet PySem.F.plain_extend_loop _, done _ I4⟩)
  obtain ⟨z, its, kk, r3, hlen3, e3⟩ := I4.lstM hq3
  cases r3
  refine wpAny_bind (wpAny_rule ?_)
  refine wpAny_bind ?_
  show wpAny _ _ (updateSeq q (·.push .none) >>= fun _ => updateSeq q (·.pop)) _ _ _
  refine wpAny_bind (wpAny_updateSeq e3 rfl ?_)
  have J2 := I4.lset (f := (·.push Value.none)) (its' := [Value.none]) (ys := [.non]) (t' := s4.toks) hq3 e3 (by simp) (.cons rfl .nil) (by rw [List.length_singleton, sizeLine_eq]; decide)
  obtain ⟨z4, its4, k4, r4, hl4, e4⟩ := J2.lstM upd_same
  obtain ⟨u4, rfl, ru4⟩ := r4.one
  refine wpAny_updateSeq e4 rfl ?_ (by show 1 ≤ sizeLine; rw [sizeLine_eq]; decide) (by show 0 ≤ sizeLine + 1; exact Nat.zero_le _)
  refine wpAny_pure ⟨plainId_quiet PySem.F.plain_extend_loop _, done _ ?_⟩
  have J3 := J2.lset (f := (·.pop)) (its := [u4]) (its' := []) (ys := []) (t' := s4.toks) upd_same e4 (by rfl) .nil (Nat.zero_le _)
  rw [upd_upd] at J3
  have hH : upd G3 q (.lst []) = G3 := by
    funext b
    by_cases hb : b = q
    · rw [hb, upd_same, hq3]
    · rw [upd_ne hb]
  rw [hH] at J3
  exact J3
end
end Ci

set_option Elab.async false
set_option linter.all false
set_option maxRecDepth 100000
set_option maxHeartbeats 4000000
namespace Cl
open PySem PySem.Spec PyProof.Rows L2
/-! len(o), o an instance with an own __len__ -/
structure LenC (K : PySem.W.Frag) (C f : Addr) : Prop where
  at_ : PySem.W.findIn K (.ref C) "__len__" = some (some (.ref f))
  fn : PySem.W.isFn K (.ref f) = true
def rLenO (C : Addr) (sp : Sp) : List V → Hp → VK → Prop := fun xs H Q => ∃ (a dx : Addr) (fs : List (PySem.Str × V)), xs = [V.ref a] ∧ H a = some (.ins C dx fs) ∧ sp [.ref a] H (fun v G => ∃ n : Nat, n ≤ 100000 ∧ v = .int (n : Nat) ∧ Q (.int (n : Nat)) G) E0
section
variable {X : Cx}
theorem call_lenO {k : Nat} {C f : Addr} {fd : FuncData} {ps : List PySem.Str} {sp : Sp} (W : LenC X.K C f) (F : FnOk X.prog X.w X.K X.mg X.base CX0 k f fd ps sp) (bt : Binds X.K fd ps []) (room : Room (k + 1) X.A) : CallR X (.builtin "len") (rLenO C sp) := by
  intro pins s σ H xs us Q I rv h
  obtain ⟨a, dx, fs, rfl, ha, pr⟩ := h
  obtain ⟨u, rfl, ru⟩ := rv.one
  cases ru
  obtain ⟨mA, J, _⟩ := ins_get I.hok ha
  obtain ⟨od, J, _⟩ := J.look
  obtain ⟨m0, hF⟩ := I.fr
  refine PySem.W.len_K hF I.ok.mod.kin J W.at_ W.fn ?_
  refine wpAny_mono (Oe.own_call (A := X.A.in1) I.ok.frames room.in1 F bt I (vs := [.ref a]) (.cons (show RelV (.ref a) (Value.ref a) from rfl) .nil) pr) (fun u s' hu => ?_) fun _ _ z => z
  obtain ⟨v, G, I', rv, n, hn, rfl, q⟩ := hu
  obtain ⟨t, rfl⟩ := rv
  refine ⟨⟨by omega, by omega⟩, ?_⟩
  exact ⟨.int (n : Nat), G, I'.tok _, ⟨_, rfl⟩, q⟩
end
end Cl

set_option Elab.async false
set_option linter.all false
set_option maxRecDepth 100000
set_option maxHeartbeats 2000000
namespace Oc
open PySem PySem.Spec PyProof.Rows L2
/-! x in y, y an instance with an own __contains__ -/
structure InC (K : PySem.W.Frag) (C f : Addr) : Prop where
  at_ : PySem.W.findIn K (.ref C) "__contains__" = some (some (.ref f))
  fn : PySem.W.isFn K (.ref f) = true
def rIn (C : Addr) (sp : Sp) (g : Bool → Bool) : R2 := fun x y H Q => ∃ (a dx : Addr) (fs : List (Str × V)), y = .ref a ∧ H a = some (.ins C dx fs) ∧ sp [.ref a, x] H (fun v G => ∃ b, v = .bl b ∧ Q (.bl (g b)) G) E0
section
variable {X : Cx} {C f : Addr} {k : Nat} {fd : FuncData} {ps : List Str} {sp : Sp}
theorem op_inO (W : InC X.K C f) (F : FnOk X.prog X.w X.K X.mg X.base CX0 k f fd ps sp) (bt : Binds X.K fd ps []) (room : Room k X.A) : OpR X (compareOp .In) (rIn C sp id) := by
  rintro pins s σ H x y u v Q I rx ry ⟨a, dx, fs, rfl, ha, pr⟩
  cases (show v = Value.ref a from ry)
  obtain ⟨m, J, _⟩ := ins_get I.hok ha
  obtain ⟨od, J, _⟩ := J.look
  have fr := I.ok.frames
  obtain ⟨m2, hF⟩ := I.fr
  refine PySem.W.in_K hF I.ok.mod.kin J W.at_ W.fn (thn (Oe.own_call fr room F bt I (vs := [.ref a, x]) (.cons (show RelV (.ref a) (Value.ref a) from rfl) (.cons rx .nil)) pr) ?_)
  rintro r s2 ⟨z, H2, I2, rz, b, rfl, q⟩
  cases (show r = Value.bool b from rz)
  exact wpAny_truthy_bool ⟨.bl b, H2, I2, rfl, q⟩
end
end Oc

set_option Elab.async false
set_option linter.all false
set_option maxRecDepth 100000
set_option maxHeartbeats 40000000
namespace Lw
open PySem PySem.Spec PyProof.Rows L2
def top (i : Nat) : Stmt := PySem.Challenge.pw_filteredcopies_k03_tables.main.body.getD i (.Pass ⟨0, 0, 0, 0⟩)
abbrev sSource : Stmt := top 14
abbrev sDraw : Stmt := top 15
abbrev sOf : Stmt := top 16
abbrev sWord : Stmt := top 17
abbrev sIsWord : Stmt := top 3
abbrev sCopied : Stmt := top 4
section
variable {P : Program} {w : World} {K : PySem.W.Frag} {mg : Str → Option Value} {base : Heap}
theorem scSource : FnScope ["script", "place", "cell", "digits"] ["script", "place"] (defScope sSource) := ⟨rfl, rfl, rfl, by decide +kernel, rfl, by decide +kernel, by decide +kernel⟩
theorem ok_source {f : Addr} {fd : FuncData} (F : FnP K "_law_source" sSource f fd) (T : TxtD mg) : FnOk P w K mg base CX0 1 f fd ["script", "place"] (spSource K) := by
  refine F.ok scSource (fun vs H Q E h => ?_) (fun cdv A outer s H vs Q E hr h => ?_)
  · obtain ⟨a, ns, i, rfl, _⟩ := h
    rfl
  · obtain ⟨a, ns, i, rfl, hS, hl, i0, i1, k⟩ := h
    refine ⟨_, PSs.nox (pss_cons (ps_set (i := 2) scSource.nd rfl (Or.inl rfl) (pe_ifExp (pt_cmpR op_lt (pv 1) (pe_callB call_len_seq (by rfl) T.len PySem.boot_len (pa_cons (pv 0) pa_nil)) (nomark _)) (pe_ix ix_list (pv 0) (pv 1) (fun _ _ => rfl)) pe_int))
      (pss_cons (ps_set (i := 3) scSource.nd rfl (Or.inl rfl) (pe_ifExp (pt_cmpR op_ge (pe_callB call_abs (by rfl) T.abs (by decide +kernel) (pa_cons (pv 2) pa_nil)) (pe_op op_pow pe_int pe_int) (nomark _)) (pe_callB call_abs (by rfl) T.abs (by decide +kernel) (pa_cons (pv 2) pa_nil)) pe_int))
      (pss_one (ps_ret (pe_lst (pa_cons (pv 3) (pa_cons (pe_op op_add (pe_op op_add (pe_op op_modN (pe_callTy call_int1 (by rfl) T.int (by decide +kernel) (pa_cons (pv 2) pa_nil)) pe_int) (pe_op op_mul pe_int (pv 1))) pe_int) (pa_cons pe_int pa_nil)))))))), ?_⟩
    refine sq_set (fun x H' => H = H' ∧ ∃ c : Int, x = .int c) (fun Q q => ?_) ?_
    · refine ⟨_, rfl, _, rfl, a, _, rfl, .inl hS, _, _, rfl, rfl, _, rfl, ?_⟩
      refine bool_ite (fun c => ?_) (fun c => ?_)
      · obtain ⟨x, hx, hm⟩ := atI_get (xs := ns.map V.int) i0 (by simpa using c)
        obtain ⟨z, _, rfl⟩ := List.mem_map.mp hm
        exact ⟨_, rfl, _, rfl, a, _, _, _, rfl, rfl, hS, hx, q _ _ ⟨rfl, z, rfl⟩⟩
      · exact q _ _ ⟨rfl, 0, rfl⟩
    rintro _ _ ⟨rfl, c, rfl⟩
    refine sq_set (fun x H' => H = H' ∧ ∃ d : Int, x = .int d ∧ 0 ≤ d) (fun Q q => ?_) ?_
    · refine ⟨_, rfl, _, rfl, _, _, rfl, rfl, ⟨by decide, by decide, by decide⟩, _, _, rfl, rfl, _, rfl, ?_⟩
      refine bool_ite (fun _ => ?_) (fun _ => ?_)
      · exact ⟨_, rfl, _, rfl, q _ _ ⟨rfl, _, rfl, by split <;> omega⟩⟩
      · exact q _ _ ⟨rfl, 0, rfl, by decide⟩
    rintro _ _ ⟨rfl, d, rfl, d0⟩
    refine ⟨_, rfl, _, rfl, .inl ⟨_, rfl, _, _, rfl, rfl, (by show (2305843009213693951 : Int) ≠ 0; decide), _, rfl, _, _, rfl, rfl, .inl ⟨by decide, by decide⟩, _, _, rfl, rfl, _, _, rfl, rfl, (by show 3 ≤ sizeLine; decide), fun p hp => ?_⟩⟩
    have hb := fmod_src c
    exact k p _ hp (fun b o h => by rw [upd_ne (ne_of_none h hp)]; exact h) ⟨d, _, 0, upd_same, d0, by omega, by omega, by decide, by decide⟩
theorem scDraw : FnScope ["source", "many", "digit"] ["source", "many"] (defScope sDraw) := ⟨rfl, rfl, rfl, by decide +kernel, rfl, by decide +kernel, by decide +kernel⟩
theorem ok_draw {f : Addr} {fd : FuncData} (F : FnP K "_law_draw" sDraw f fd) (T : TxtD mg) : FnOk P w K mg base CX0 1 f fd ["source", "many"] spDraw := by
  refine F.ok scDraw (fun vs H Q E h => ?_) (fun cdv A outer s H vs Q E hr h => ?_)
  · obtain ⟨a, n, m, rfl, _⟩ := h
    rfl
  · obtain ⟨a, n, m, rfl, ⟨d, s', t, hA, d0, s0, s1, t0, t1⟩, hn, m0, m1, k⟩ := h
    have hu := hu_of hr
    refine ⟨_, PSs.nox (pss_cons (ps_if (pt_cmpR op_gt (pe_ix ix_list (pv 0) pe_int (fun _ _ => rfl)) pe_int (nomark _))
        (pss_cons (ps_set (i := 2) scDraw.nd rfl (Or.inl rfl) (pe_op op_modN (pe_callTy call_int1 (by rfl) T.int (by decide +kernel) (pa_cons (pe_ix ix_list (pv 0) pe_int (fun _ _ => rfl)) pa_nil)) (pv 1)))
          (pss_cons (ps_asg (pe_op op_fdivN (pe_ix ix_list (pv 0) pe_int (fun _ _ => rfl)) (pv 1)) (pg_sub (pv 0) pe_int set_list)) (pss_one (ps_ret (pv 2))))) pss_nil)
      (pss_cons (ps_asg (pe_op op_add (pe_ix ix_list (pv 0) pe_int (fun _ _ => rfl)) pe_int) (pg_sub (pv 0) pe_int set_list))
      (pss_cons (ps_asg (pe_op op_modN (pe_callTy call_int1 (by rfl) T.int (by decide +kernel) (pa_cons (pe_op op_add (pe_op op_add (pe_op op_mul (pe_ix ix_list (pv 0) pe_int (fun _ _ => rfl)) pe_int) (pe_op op_mul (pe_op op_mul pe_int (pe_ix ix_list (pv 0) pe_int (fun _ _ => rfl))) (pe_ix ix_list (pv 0) pe_int (fun _ _ => rfl)))) pe_int) pa_nil)) pe_int) (pg_sub (pv 0) pe_int set_list))
      (pss_one (ps_ret (pe_op op_modN (pe_callTy call_int1 (by rfl) T.int (by decide +kernel) (pa_cons (pe_op op_fdivN (pe_op op_modN (pe_callTy call_int1 (by rfl) T.int (by decide +kernel) (pa_cons (pe_op op_add (pe_op op_pow (pe_op op_fdivN (pe_ix ix_list (pv 0) pe_int (fun _ _ => rfl)) pe_int) pe_int) (pe_op op_mul pe_int (pe_ix ix_list (pv 0) pe_int (fun _ _ => rfl)))) pa_nil)) pe_int) pe_int) pa_nil)) (pv 1))))))), ?_⟩
    have zA : ∀ (r : Int), 0 ≤ r.fmod m ∧ r.fmod m < m := fun r => ⟨Int.fmod_nonneg_of_pos r m0, Int.fmod_lt_of_pos r m0⟩
    have mz : m ≠ 0 := by omega
    have md : m ≠ 0 ∧ m.natAbs < 1073741824 := ⟨mz, by omega⟩
    refine sq_if (fun b H' => H = H' ∧ b = decide (0 < d)) (fun Q q => ?_) ?_ ?_
    · exact ⟨_, rfl, a, _, _, _, rfl, rfl, SqL.of hA, rfl, _, _, rfl, rfl, _, rfl, q _ _ ⟨rfl, rfl⟩⟩
    · rintro _ ⟨rfl, c⟩
      refine ⟨_, rfl, a, _, _, _, rfl, rfl, SqL.of hA, rfl, .inl ⟨_, rfl, _, rfl, _, _, rfl, rfl, mz, ?_⟩⟩
      refine ⟨_, rfl, a, _, _, _, rfl, rfl, SqL.of hA, rfl, _, rfl, _, _, rfl, rfl, md, _, rfl, a, _, _, _, rfl, rfl, hA, rfl, _, rfl, ?_⟩
      exact k _ _ (Keep.refl H).upd ⟨_, _, _, upd_same, Int.fdiv_nonneg d0 (by omega), s0, s1, t0, by omega⟩ (zA d).1 (zA d).2
    · rintro _ ⟨rfl, c⟩
      refine ⟨_, rfl, a, _, _, _, rfl, rfl, SqL.of hA, rfl, _, _, rfl, rfl, _, rfl, a, _, _, _, rfl, rfl, hA, rfl, ?_⟩
      refine ⟨_, rfl, a, _, _, _, rfl, rfl, SqL.of upd_same, rfl, _, _, rfl, rfl, .inl ⟨by show -(2 ^ 64) < s'; omega, by show s' < 2 ^ 64; omega⟩, _, rfl, a, _, _, _, rfl, rfl, SqL.of upd_same, rfl, _, _, rfl, rfl, .inl ⟨by decide, by decide⟩,
        _, rfl, a, _, _, _, rfl, rfl, SqL.of upd_same, rfl, _, _, rfl, rfl, .inr ⟨by show -(2 ^ 64) < t + 1; omega, by show t + 1 < 2 ^ 64; omega⟩, _, _, rfl, rfl, _, _, rfl, rfl, .inl ⟨_, rfl, _, _, rfl, rfl, (by show (2305843009213693951 : Int) ≠ 0; decide), _, rfl, a, _, _, _, rfl, rfl, upd_same, rfl, ?_⟩⟩
      have hb := fmod_src (s' * 69621 + 32452843 * (t + 1) * (t + 1) + 40009)
      have hq : ∀ z : Int, 0 ≤ z ∧ z < 2305843009213693951 → (z.fdiv 256).natAbs < 2 ^ 64 := fun z hz => by
        rw [Int.fdiv_eq_ediv_of_nonneg _ (by decide)]
        omega
      refine ⟨_, rfl, a, _, _, _, rfl, rfl, SqL.of upd_same, rfl, _, _, rfl, rfl, ⟨by decide, by decide⟩, _, _, rfl, rfl, ⟨by decide, by decide, hq _ hb⟩, _, rfl, a, _, _, _, rfl, rfl, SqL.of upd_same, rfl, _, _, rfl, rfl, .inl ⟨by decide, by decide⟩, _, _, rfl, rfl,
        .inl ⟨_, rfl, _, _, rfl, rfl, (by show (2305843009213693921 : Int) ≠ 0; decide), _, _, rfl, rfl, ⟨by decide, by decide⟩, .inl ⟨_, rfl, _, rfl, _, _, rfl, rfl, mz, ?_⟩⟩⟩
      refine k _ _ ((Keep.refl H).upd.upd) ⟨_, _, _, upd_same, d0, by omega, by omega, by omega, by omega⟩ (zA _).1 (zA _).2
theorem cal_draw (T : TxtD mg) (D : DefIs K mg "_law_draw" sDraw) : Cal P w K mg base CX0 "_law_draw" 1 ["source", "many"] spDraw := by
  obtain ⟨f, fd, hm, F⟩ := D
  exact ⟨f, fd, hm, F.kp, ok_draw F T, F.bindsN fun _ _ _ _ _ _ us hl => match us, hl with | [_, _], _ => rfl⟩
theorem scOf : FnScope ["source", "some"] ["source", "some"] (defScope sOf) := ⟨rfl, rfl, rfl, by decide +kernel, rfl, by decide +kernel, by decide +kernel⟩
theorem ok_of {f : Addr} {fd : FuncData} (F : FnP K "_law_of" sOf f fd) (T : TxtD mg) (cD : Cal P w K mg base CX0 "_law_draw" 1 ["source", "many"] spDraw) : FnOk P w K mg base CX0 2 f fd ["source", "some"] (spOf K) := by
  refine F.ok scOf (fun vs H Q E h => ?_) (fun cdv A outer s H vs Q E hr h => ?_)
  · obtain ⟨a, b, n, xs, rfl, _⟩ := h
    rfl
  · obtain ⟨a, b, n, xs, rfl, hs, hn, ba, hb, x0, x1, k⟩ := h
    refine ⟨_, PSs.nox (pss_one (ps_ret (pe_ix ix_list (pv 1) (pe_cal cD hr (pa_cons (pv 0) (pa_cons (pe_callB call_len_seq (by rfl) T.len PySem.boot_len (pa_cons (pv 1) pa_nil)) pa_nil))) (fun _ _ => rfl)))), ?_⟩
    have xl : 0 < xs.length := List.length_pos_iff.mpr x0
    refine ⟨_, rfl, _, rfl, _, rfl, b, _, rfl, .inl hb, a, n, _, rfl, hs, hn, by omega, by omega, fun H' i kp sr i0 i1 => ?_⟩
    obtain ⟨x, hx, hm⟩ := atI_get i0 i1
    exact ⟨b, _, _, _, rfl, rfl, kp.seq ba hb, hx, k _ _ kp sr hm⟩
theorem scWord : FnScope nWord ["source", "taken"] (defScope sWord) := ⟨rfl, rfl, rfl, by decide +kernel, rfl, by decide +kernel, by decide +kernel⟩
theorem ok_word {f : Addr} {fd : FuncData} (F : FnP K "_law_word" sWord f fd) (T : TxtD mg) (cD : Cal P w K mg base CX0 "_law_draw" 1 ["source", "many"] spDraw) : FnOk P w K mg base CX0 2 f fd ["source", "taken"] (spWord K) := by
  refine F.ok scWord (fun vs H Q E h => ?_) (fun cdv A outer s H vs Q E hr h => ?_)
  · obtain ⟨a, b, n, ts, rfl, _⟩ := h
    rfl
  · obtain ⟨a, b, n, ts, rfl, hs, hn, ba, hb, hts, k⟩ := h
    refine ⟨_, PSs.nox (pss_cons (ps_set (i := 2) scWord.nd rfl (Or.inr rfl) pe_str)
      (pss_cons (ps_set (i := 3) scWord.nd rfl (Or.inr rfl) (pe_join pe_str (pe_lc (own := [("turn", 5)]) (g := gName 5) (tt := tYes) rfl scWord.nd (pi_range1 rfl T.range (pa_cons (pe_op op_add pe_int (pe_cal cD hr (pa_cons (pv 0) (pa_cons pe_int pa_nil)))) pa_nil))
        (blkOk_by (N := nWord) (sc := defScope sWord) (by decide +kernel)) (fun _ _ _ _ _ => pg_name (i := 5) scWord.nd rfl (Or.inl rfl)) (fun _ _ _ _ _ => pts_nil) (fun _ _ _ _ _ => pe_ix ix_str (pv 2) (pe_cal cD hr (pa_cons (pv 0) (pa_cons pe_int pa_nil))) (fun _ _ => rfl)))))
      (pss_cons (ps_if (pt_cmpR op_notIn_seq (pv 3) (pv 1) rfl) (pss_one (ps_ret (pv 3))) pss_nil)
      (pss_cons (ps_setLc (i := 4) (own := [("letter", 6)]) (g := gName 6) (tt := tTest (tOp (rIn K true) (tSl rSlS (tOp _ (tVar 6) (tVar 3)) tNoPart (tPart (tC (.int 8)))) (tVar 1))) rfl scWord.nd rfl rfl (sw_true rfl rfl rfl (by decide +kernel)) (pi_str (pv 2)) (blkOk_by (N := nWord) (sc := defScope sWord) (by decide +kernel))
        (fun _ _ _ _ _ => pg_name (i := 6) scWord.nd rfl (Or.inl rfl)) (fun _ _ _ _ _ => pts_one (pt_cmpR op_notIn_seq (pe_slice sl_str (pe_op op_add_str (pv 6) (pv 3)) po_none (po_some pe_int)) (pv 1) rfl)) (fun _ _ _ _ _ => pv 6))
      (pss_one (ps_ret (pe_slice sl_str (pe_op op_add_str (pe_ix ix_list (pv 4) pe_int (fun _ _ => rfl)) (pv 3)) po_none (po_some pe_int)))))))), ?_⟩
    refine sq_set (fun x H' => H = H' ∧ x = .str letters) (fun Q q => q _ _ ⟨rfl, rfl⟩) ?_
    rintro _ _ ⟨rfl, rfl⟩
    refine sq_set (fun x H' => ∃ z, x = .str z ∧ IsWord z ∧ Keep a H H' ∧ Src H' a (n + 10)) (fun Q q => ?_) ?_
    · refine ⟨⟨_, rfl⟩, _, rfl, a, n, _, rfl, hs, by omega, by decide, by decide, fun H1 i k1 s1 i0 i1 => ⟨_, _, rfl, rfl, _, rfl, by omega, by omega, fun D hD => ?_⟩⟩
      have Da : D ≠ a := s1.ne hD
      refine lc_range (lo := 0) (n := (1 + i).toNat) (fun j H' => ∃ cs : List Nat, H' D = some (.lst ((cs.map sign).map V.str)) ∧ cs.length = j ∧ (∀ c ∈ cs, c ∈ abc) ∧ Keep a H H' ∧ Src H' a (n + 1 + j))
        ⟨[], upd_same, rfl, fun _ h => (List.not_mem_nil h).elim, k1.new hD, s1.new hD⟩ ?_ ?_
      · rintro j H' hj ⟨cs, hd, hl, ha, k2, s2⟩
        refine ⟨rfl, _, rfl, _, rfl, a, _, _, rfl, s2, by omega, by decide, by decide, fun H3 i3 k3 s3 j0 j1 => ?_⟩
        obtain ⟨c, hc, hm⟩ := abc_at j0 j1
        have hd3 := k3 _ _ Da hd
        refine ⟨_, _, c, rfl, rfl, (by show letters.cps.size ≤ sizeLine; rw [letters_cps]; decide), hc, _, hd3, by simp only [List.length_map, hl]; exact small1000 (by omega), cs ++ [c], ?_, by simp [hl], fun x hx => ?_, ?_, ?_⟩
        · rw [upd_same]; simp [sign]
        · rcases List.mem_append.mp hx with h | h
          · exact ha x h
          · rw [List.mem_singleton.mp h]; exact hm
        · intro b' o nb ho
          have e := k3 b' o nb (k2 b' o nb ho)
          by_cases hbD : b' = D
          · exfalso
            rw [hbD] at ho nb
            have := k1 D o nb ho
            rw [hD] at this
            cases this
          · rw [upd_ne hbD]; exact e
        · obtain ⟨d, s', t, h1, h2⟩ := s3
          exact ⟨d, s', t, by rw [upd_ne Da.symm]; exact h1, h2⟩
      · rintro H' ⟨cs, hd, hl, ha, k2, s2⟩
        refine ⟨_, D, cs.map sign, rfl, rfl, .inl (SqL.of hd), ?_, ?_⟩
        · have e1 : ((cs.map sign).map (·.length)).sum = cs.length := by
            clear hd hl ha
            induction cs with
            | nil => rfl
            | cons c r ih => simp only [List.map_cons, List.sum_cons, ih, List.length_cons]; show 1 + _ = _; omega
          have e2 : (PySem.Str.ofString "").length = 0 := by decide +kernel
          rw [e1, e2]
          omega
        · have e : (Txt.join (PySem.Str.ofString "") (cs.map sign)).cps.toList = cs := join_signs _ (by decide +kernel) cs
          refine q _ _ ⟨_, rfl, ⟨?_, ?_, ?_⟩, k2, s2.mono (by omega)⟩
          · rw [len_tl, e]; omega
          · rw [len_tl, e]; omega
          · rw [e]; exact fun c hc => abc_le (ha c hc)
    rintro _ H1 ⟨z, rfl, hz, k1, s1⟩
    have hb1 := k1.seq ba hb
    refine sq_if1 (fun b' H' => H1 = H' ∧ (b' = true → z ∉ ts)) (fun Q q => ?_) ?_ ?_
    · refine ⟨_, rfl, _, rfl, b, _, rfl, .inl hb1, rfl, flat_strs ts, _, rfl, q _ _ ⟨rfl, fun h => ?_⟩⟩
      have h2 : (!inV (.str z) (ts.map V.str)) = true := h
      rw [inV_str] at h2
      simpa using h2
    · rintro _ ⟨rfl, hnt⟩
      exact ⟨_, rfl, k _ _ k1 s1 hz (hnt rfl)⟩
    rintro _ ⟨rfl, _⟩
    refine sq_set (fun x H' => ∃ D, x = .ref D ∧ D ≠ a ∧ H' D = some (.lst (((abc.filter (fun c => !decide (cand z c ∈ ts))).map sign).map V.str)) ∧ Keep a H H' ∧ Src H' a (n + 10)) (fun Q q => ?_) ?_
    · refine ⟨_, rfl, _, rfl, fun D hD => ?_⟩
      have Da : D ≠ a := s1.ne hD
      refine lc_it walk_str (fun j H' => H' D = some (.lst ((((abc.take j).filter (fun c => !decide (cand z c ∈ ts))).map sign).map V.str)) ∧ Keep a H H' ∧ Src H' a (n + 10))
        ⟨upd_same, k1.new hD, s1.new hD⟩ (fun _ _ _ _ => trivial) ?_ ?_
      · rintro j x H' _ hj ⟨hd, k2, s2⟩ ⟨rfl, c, hc, rfl⟩
        have hc2 : abc[j]? = some c := by
          rw [letters_cps] at hc
          simpa using hc
        have ht : abc.take (j + 1) = abc.take j ++ [c] := by rw [List.take_add_one, hc2]; rfl
        refine ⟨rfl, _, rfl, _, rfl, _, _, rfl, rfl, ?_, _, rfl, _, rfl, ?_, _, rfl, b, _, rfl, .inl (k2.seq ba hb), rfl, flat_strs ts, _, rfl, ?_⟩
        · have := hz.2.1
          show 1 + z.length ≤ sizeLine
          exact Nat.le_trans (show 1 + z.length ≤ 9 by omega) (by decide)
        · show (sign c ++ z).length ≤ sizeLine
          have := hz.2.1
          rw [len_tl] at this
          rw [len_tl, tl_app]
          simp only [List.length_append, tl_sign, List.length_singleton]
          exact Nat.le_trans (show 1 + z.cps.toList.length ≤ 9 by omega) (by decide)
        · refine str_notmem (fun h => ?_) (fun h => ?_)
          · refine ⟨_, rfl, _, hd, ?_, ?_, ?_, ?_⟩
            · simp only [List.length_map]
              refine Nat.lt_of_le_of_lt (List.length_filter_le _ _) (Nat.lt_of_le_of_lt (List.length_take_le' _ _) (by decide))
            · rw [upd_same, ht, List.filter_append, List.map_append, List.map_append]
              have e : [c].filter (fun c => !decide (cand z c ∈ ts)) = [c] := by
                have h2 : cand z c ∉ ts := h
                simp [h2]
              rw [e]
              rfl
            · intro b' o nb ho
              by_cases hbD : b' = D
              · exfalso
                rw [hbD] at ho nb
                have := k1 D o nb ho
                rw [hD] at this
                cases this
              · rw [upd_ne hbD]; exact k2 b' o nb ho
            · obtain ⟨d, s', t, h1, h2⟩ := s2
              exact ⟨d, s', t, by rw [upd_ne Da.symm]; exact h1, h2⟩
          · refine ⟨?_, k2, s2⟩
            rw [ht, List.filter_append]
            have e : [c].filter (fun c => !decide (cand z c ∈ ts)) = [] := by
              have h2 : cand z c ∈ ts := h
              simp [h2]
            rw [e, List.append_nil]
            exact hd
      · rintro H' ⟨hd, k2, s2⟩
        refine q _ _ ⟨D, rfl, Da, ?_, k2, s2⟩
        have e : abc.take letters.cps.size = abc := by rw [letters_cps]; rfl
        rw [e] at hd
        exact hd
    rintro _ H2 ⟨D, rfl, Da, hd, k2, s2⟩
    have hne := free_some z ts hts
    obtain ⟨c, r, hcr⟩ := List.exists_cons_of_ne_nil hne
    have hc : c ∈ abc.filter (fun c => !decide (cand z c ∈ ts)) := by rw [hcr]; exact List.mem_cons_self
    obtain ⟨hca, hcn⟩ := List.mem_filter.mp hc
    have hcn2 : cand z c ∉ ts := by simpa using hcn
    rw [hcr] at hd
    refine ⟨_, rfl, D, _, _, _, rfl, rfl, SqL.of hd, atI_nat (j := 0) rfl, _, rfl, _, _, rfl, rfl, ?_, _, rfl, _, rfl, ?_, k _ _ k2 s2 (cand_word hz hca) hcn2⟩
    · have := hz.2.1
      show 1 + z.length ≤ sizeLine
      exact Nat.le_trans (show 1 + z.length ≤ 9 by omega) (by decide)
    · show (sign c ++ z).length ≤ sizeLine
      have := hz.2.1
      rw [len_tl] at this
      rw [len_tl, tl_app]
      simp only [List.length_append, tl_sign, List.length_singleton]
      exact Nat.le_trans (show 1 + z.cps.toList.length ≤ 9 by omega) (by decide)
theorem scIsWord : FnScope ["value", "letter"] ["value"] (defScope sIsWord) := ⟨rfl, rfl, rfl, by decide +kernel, rfl, by decide +kernel, by decide +kernel⟩
theorem ok_isWord {f : Addr} {fd : FuncData} (F : FnP K "is_word" sIsWord f fd) (T : TxtP mg) : FnOk P w K mg base CX0 1 f fd ["value"] (spIsWord K) := by
  obtain ⟨tk, hlw⟩ := T.longest
  refine F.ok scIsWord (fun vs H Q E h => ?_) (fun cdv A outer s H vs Q E hr h => ?_)
  · obtain ⟨v, b, rfl, _⟩ := h
    rfl
  · obtain ⟨v, b, rfl, hv, k⟩ := h
    refine ⟨_, PSs.nox (pss_cons (ps_if (PW.pt (pw_or (pt_not (pt_val (pe_callB call_isi (by rfl) T.isi (by decide +kernel) (pa_cons (pv 0) (pa_cons (pe_bltn (v := .ty "str") (by rfl) T.str (by decide +kernel) rfl) pa_nil)))))
        (pw_or1 (pt_not (pt_chain op_le op_le pe_int (pe_callB call_len_str (by rfl) T.len PySem.boot_len (pa_cons (pv 0) pa_nil)) (pe_glob (v := .int 8) rfl hlw ⟨_, rfl⟩)))))) (pss_one (ps_ret pe_bl)) pss_nil)
      (pss_one (ps_ret (pe_callB (cr_all rfl) (by rfl) T.all (by decide +kernel) (pa_cons (pe_lc (own := [("letter", 1)]) (g := gName 1) (tt := tYes) rfl scIsWord.nd (pi_str (pv 0)) (blkOk_by (N := ["value", "letter"]) (sc := defScope sIsWord) (by decide +kernel))
        (fun _ _ _ _ _ => pg_name (i := 1) scIsWord.nd rfl (Or.inl rfl)) (fun _ _ _ _ _ => pts_nil) (fun _ _ _ _ _ => pe_chain op_le_str op_le_str pe_str (pv 1) pe_str)) pa_nil))))), ?_⟩
    have isz : ∀ z : Str, z.length ≤ 1000 → z.length ≤ sizeLine := fun z hz => Nat.le_trans hz (by decide)
    rcases hv with ⟨z, rfl, hz, rfl⟩ | ⟨rfl, t, ht, kt⟩
    · refine sq_if1 (fun b' H' => H = H' ∧ b' = !(decide (1 ≤ z.length) && decide (z.length ≤ 8))) (fun Q q => ?_) ?_ ?_
      · refine ⟨_, rfl, _, _, _, _, true, rfl, .ty _, ty_str z, kit_ty (by decide +kernel), true, rfl, iteF ⟨_, rfl, _, rfl, isz z hz, _, _, rfl, rfl, _, rfl, ?_⟩⟩
        refine bool_ite (fun c => ?_) (fun c => ?_)
        · refine ⟨_, _, rfl, rfl, _, rfl, q _ _ ⟨rfl, ?_⟩⟩
          have c1 : 1 ≤ z.length := by omega
          rw [decide_eq_true c1, Bool.true_and]
          congr 1
          exact decide_eq_decide.mpr (by omega)
        · refine ⟨_, rfl, q _ _ ⟨rfl, ?_⟩⟩
          have c1 : ¬ 1 ≤ z.length := by omega
          rw [decide_eq_false c1, Bool.false_and]
      · rintro _ ⟨rfl, e⟩
        have e1 : isWordB z = false := by
          unfold isWordB
          rw [← Bool.and_assoc]
          have e2 : (decide (1 ≤ z.length) && decide (z.length ≤ 8)) = false := by
            cases q : (decide (1 ≤ z.length) && decide (z.length ≤ 8)) with
            | false => rfl
            | true => rw [q] at e; cases e
          rw [e2, Bool.false_and]
        rw [e1] at k
        exact k _ (Same.refl H)
      · rintro _ ⟨rfl, e⟩
        have e2 : (decide (1 ≤ z.length) && decide (z.length ≤ 8)) = true := by
          cases q : (decide (1 ≤ z.length) && decide (z.length ≤ 8)) with
          | true => rfl
          | false => rw [q] at e; cases e
        have e1 : isWordB z = z.cps.toList.all fun c => decide (97 ≤ c) && decide (c ≤ 122) := by
          unfold isWordB
          rw [← Bool.and_assoc, e2, Bool.true_and]
        refine ⟨_, rfl, z, rfl, fun D hD => ?_⟩
        refine lc_it walk_str (fun j H' => H' D = some (.lst (((z.cps.toList.take j).map fun c => decide (97 ≤ c) && decide (c ≤ 122)).map V.bl)) ∧ Same H H')
          ⟨upd_same, fun b o h => by rw [upd_ne (ne_of_none h hD)]; exact h⟩ (fun _ _ _ _ => trivial) ?_ ?_
        · rintro j x _ H' hj ⟨hd, k2⟩ ⟨rfl, c, hc, rfl⟩
          have hc2 : z.cps.toList[j]? = some c := by simpa using hc
          have ht : z.cps.toList.take (j + 1) = z.cps.toList.take j ++ [c] := by rw [List.take_add_one, hc2]; rfl
          have fin : ∀ b' : Bool, b' = (decide (97 ≤ c) && decide (c ≤ 122)) → ∃ acc, H' D = some (.lst acc) ∧ acc.length < sizeLine ∧ ((upd H' D (.lst (acc ++ [.bl b']))) D = some (.lst (((z.cps.toList.take (j + 1)).map fun c => decide (97 ≤ c) && decide (c ≤ 122)).map V.bl)) ∧ Same H (upd H' D (.lst (acc ++ [.bl b'])))) := fun b' hb' => by
            refine ⟨_, hd, ?_, ?_, fun b o h => ?_⟩
            · simp only [List.length_map]
              rw [len_tl] at hz
              exact Nat.lt_of_le_of_lt (List.length_take_le' _ _) (Nat.lt_of_le_of_lt hz (by decide))
            · rw [upd_same, ht, List.map_append, List.map_append, hb']
              rfl
            · by_cases hbD : b = D
              · rw [hbD, hD] at h
                cases h
              · rw [upd_ne hbD]; exact k2 b o h
          have la : ∀ c d : Nat, decide (([c] : List Nat) < [d]) = decide (c < d) := lt_sign
          refine ⟨rfl, _, rfl, _, _, rfl, rfl, _, rfl, ?_⟩
          show if (!decide ([c] < [97])) = true then _ else _
          rw [lt_sign]
          by_cases c1 : c < 97
          · rw [decide_eq_true c1, Bool.not_true, if_neg Bool.false_ne_true]
            exact fin false (by rw [decide_eq_false (by omega : ¬ 97 ≤ c), Bool.false_and])
          · rw [decide_eq_false c1, Bool.not_false, if_pos rfl]
            refine ⟨_, _, rfl, rfl, ?_⟩
            show ∃ acc, _ ∧ _ ∧ _
            have e3 : (!decide ([122] < ([c] : List Nat))) = (decide (97 ≤ c) && decide (c ≤ 122)) := by
              rw [lt_sign, decide_eq_true (by omega : 97 ≤ c), Bool.true_and]
              by_cases c2 : c ≤ 122
              · rw [decide_eq_true c2, decide_eq_false (by omega : ¬ 122 < c)]; rfl
              · rw [decide_eq_false c2, decide_eq_true (by omega : 122 < c)]; rfl
            exact fin _ e3
        · rintro H' ⟨hd, k2⟩
          have e4 : z.cps.toList.take z.cps.size = z.cps.toList := List.take_of_length_le (by simp)
          rw [e4] at hd
          refine ⟨D, _, rfl, SqL.of hd, ?_⟩
          have e5 : (z.cps.toList.map fun c => decide (97 ≤ c) && decide (c ≤ 122)).all id = isWordB z := by
            rw [e1, List.all_map]
            rfl
          show Q (.bl _) H'
          rw [e5]
          exact k _ k2
    · refine sq_if1 (fun b' H' => H = H' ∧ b' = true) (fun Q q => ⟨_, rfl, _, _, _, _, false, rfl, .ty _, ht, kit_ty kt, false, rfl, iteT (q _ _ ⟨rfl, rfl⟩)⟩) ?_ ?_
      · rintro _ ⟨rfl, _⟩
        exact k _ (Same.refl H)
      · rintro _ ⟨_, e⟩
        cases e
theorem scCopied : FnScope ["value", "part", "name"] ["value"] (defScope sCopied) := ⟨rfl, rfl, rfl, by decide +kernel, rfl, by decide +kernel, by decide +kernel⟩
theorem ok_copied {f : Addr} {fd : FuncData} (F : FnP K "copied" sCopied f fd) (T : TxtP mg) : FnOk P w K mg base CX0 1 f fd ["value"] (spCopied K) := by
  refine F.ok scCopied (fun vs H Q E h => ?_) (fun cdv A outer s H vs Q E hr h => ?_)
  · obtain ⟨v, rfl, _⟩ := h
    rfl
  · obtain ⟨v, rfl, ⟨t1, h1, k1⟩, ⟨t2, h2, k2⟩, ⟨t3, h3, k3⟩, k⟩ := h
    refine ⟨_, PSs.nox (pss_cons (ps_if (pt_val (pe_callB call_isi (by rfl) T.isi (by decide +kernel) (pa_cons (pv 0) (pa_cons (pe_bltn (v := .ty "list") (by rfl) T.list (by decide +kernel) rfl) pa_nil)))) (pss_one ps_never) pss_nil)
      (pss_cons (ps_if (pt_val (pe_callB call_isi (by rfl) T.isi (by decide +kernel) (pa_cons (pv 0) (pa_cons (pe_bltn (v := .ty "tuple") (by rfl) T.tuple (by decide +kernel) rfl) pa_nil)))) (pss_one ps_never) pss_nil)
      (pss_cons (ps_if (pt_val (pe_callB call_isi (by rfl) T.isi (by decide +kernel) (pa_cons (pv 0) (pa_cons (pe_bltn (v := .ty "dict") (by rfl) T.dict (by decide +kernel) rfl) pa_nil)))) (pss_one ps_never) pss_nil)
      (pss_one (ps_ret (pv 0)))))), ?_⟩
    exact ⟨_, rfl, _, _, _, _, false, rfl, .ty _, h1, kit_ty k1, false, rfl, iteF ⟨_, rfl, _, _, _, _, false, rfl, .ty _, h2, kit_ty k2, false, rfl, iteF ⟨_, rfl, _, _, _, _, false, rfl, .ty _, h3, kit_ty k3, false, rfl, iteF ⟨_, rfl, k⟩⟩⟩⟩
end
end Lw

set_option Elab.async false
set_option linter.all false
set_option maxRecDepth 100000
set_option maxHeartbeats 40000000
namespace Lw
open PySem PySem.Spec PyProof.Rows L2
abbrev sColE : Stmt := inClass (top 11) 1
abbrev sColI : Stmt := inClass (top 11) 0
abbrev sTabI : Stmt := inClass (top 12) 2
section
variable {P : Program} {w : World} {K : PySem.W.Frag} {mg : Str → Option Value} {base : Heap}
end
/-! columns -/
def colF (z a b c : V) : List (Str × V) := putF "empty" c (putF "fixed" b (putF "large" a (putF "name" z [])))
theorem colF_eq (z a b c : V) : colF z a b c = ([("name", z), ("large", a), ("fixed", b), ("empty", c)] : List (Str × V)) := by
  have e1 : ¬ (("name" : Str) = "large") := by decide +kernel
  have e2 : ¬ (("name" : Str) = "fixed") := by decide +kernel
  have e3 : ¬ (("name" : Str) = "empty") := by decide +kernel
  have e4 : ¬ (("large" : Str) = "fixed") := by decide +kernel
  have e5 : ¬ (("large" : Str) = "empty") := by decide +kernel
  have e6 : ¬ (("fixed" : Str) = "empty") := by decide +kernel
  simp only [colF, putF, e1, e2, e3, e4, e5, e6, if_false]
theorem colF_name (z a b c : V) : (colF z a b c).lookup ("name" : Str) = some z := by rw [colF_eq, List.lookup_cons_self]
theorem look_skip {k k2 : Str} {v : V} {r : List (Str × V)} (h : (k == k2) = false) : List.lookup k ((k2, v) :: r) = List.lookup k r := by
  rw [List.lookup_cons, h]
theorem colF_large (z a b c : V) : (colF z a b c).lookup ("large" : Str) = some a := by
  rw [colF_eq, look_skip (by decide +kernel), List.lookup_cons_self]
theorem colF_fixed (z a b c : V) : (colF z a b c).lookup ("fixed" : Str) = some b := by
  rw [colF_eq, look_skip (by decide +kernel), look_skip (by decide +kernel), List.lookup_cons_self]
theorem colF_empty (z a b c : V) : (colF z a b c).lookup ("empty" : Str) = some c := by
  rw [colF_eq, look_skip (by decide +kernel), look_skip (by decide +kernel), look_skip (by decide +kernel), List.lookup_cons_self]
structure TxtC (K : PySem.W.Frag) (mg : Str → Option Value) (CC CT : Addr) : Prop where
  cl : Cls K CC
  n1 : NoAttr K CC "name"
  n2 : NoAttr K CC "large"
  n3 : NoAttr K CC "fixed"
  n4 : NoAttr K CC "empty"
  gC : mg "Column" = some (.ref CC)
  gT : mg "Table" = some (.ref CT)
  rd : ClX.CRead K CT (.type "type")
  key : ∃ u, ClX.CVal K CT (.type "type") "KEY" (.str "key") u
  isi : mg "isinstance" = none
  ha : PySem.W.findIn K (.ref CC) "__class__" = some (some (.builtin "object.__class__"))
  hn : PySem.W.specialIn K (.builtin "object.__class__") "__get__" = some (some (.builtin "getset_descriptor.__get__"))
  ht : PySem.W.takesIn K (.builtin "object.__class__") = some true
  hm : PySem.W.mroIn K CC (.type "object") = some true
/-- a column that tells this -/
def Col (CC : Addr) (H : Hp) (p : Addr) (z : Str) (a b c : Bool) : Prop := ∃ dx, H p = some (.ins CC dx (colF (.str z) (.bl a) (.bl b) (.bl c)))
theorem Col.same {CC : Addr} {H G : Hp} {p : Addr} {z : Str} {a b c : Bool} (s : Same H G) (h : Col CC H p z a b c) : Col CC G p z a b c := let ⟨dx, e⟩ := h; ⟨dx, s _ _ e⟩
def NotCol (K : PySem.W.Frag) (CC : Addr) (H : Hp) (y : V) : Prop := ∃ t, TyX K H y (.type t) ∧ PySem.W.kitOne K (.type t) (.ref CC) = some false
def spColE (K : PySem.W.Frag) (CC : Addr) : Sp := fun vs H Q _ => ∃ (p : Addr) (y : V) (z : Str) (a b c : Bool), vs = [.ref p, y] ∧ Col CC H p z a b c ∧
  ((∃ (q : Addr) (z2 : Str) (a2 b2 c2 : Bool), y = .ref q ∧ Col CC H q z2 a2 b2 c2 ∧ Q (.bl (decide (z = z2 ∧ a = a2 ∧ b = b2 ∧ c = c2))) H) ∨ (NotCol K CC H y ∧ Q (.bl false) H))
section
variable {P : Program} {w : World} {K : PySem.W.Frag} {mg : Str → Option Value} {base : Heap} {CC CT C : Addr}
theorem kit_self {D : Addr} : PySem.W.kitOne K (.ref D) (.ref D) = some true := by
  unfold PySem.W.kitOne
  rw [if_pos (beq_self_eq_true _)]
theorem scColE : FnScope ["self", "other"] ["self", "other"] (defScope sColE) := ⟨rfl, rfl, rfl, by decide +kernel, rfl, by decide +kernel, by decide +kernel⟩
theorem dec_if {c : Prop} [Decidable c] {k : Bool} {A B : Prop} (e : k = decide c) (h1 : c → A) (h2 : ¬ c → B) : if k = true then A else B := by
  subst e
  exact bool_ite h1 h2
theorem ok_colE {f : Addr} {fd : FuncData} (F : MethD K "__eq__" "Column.__eq__" sColE f fd) (T : TxtC K mg CC CT) : FnOk P w K mg base CX0 1 f fd ["self", "other"] (spColE K CC) := by
  refine F.ok scColE (fun vs H Q E h => ?_) (fun cdv A outer s H vs Q E hr h => ?_)
  · obtain ⟨p, y, z, a, b, c, rfl, _⟩ := h
    rfl
  · obtain ⟨p, y, z, a, b, c, rfl, ⟨dx, hp⟩, h⟩ := h
    refine ⟨_, PSs.nox (pss_one (ps_ret (pe_and (pe_callB call_isi (by rfl) T.isi (by decide +kernel) (pa_cons (pv 1) (pa_cons (pe_glob (v := .ref CC) rfl T.gC rfl) pa_nil)))
      (pe_and (pe_cmpR op_eq (pe_fld (pv 0) (by rfl)) (pe_fld (pv 1) (by rfl)) (nomark _)) (pe_and (pe_cmpR op_eq (pe_fld (pv 0) (by rfl)) (pe_fld (pv 1) (by rfl)) (nomark _))
        (pe_and (pe_cmpR op_eq (pe_fld (pv 0) (by rfl)) (pe_fld (pv 1) (by rfl)) (nomark _)) (pe_one (pe_cmpR op_eq (pe_fld (pv 0) (by rfl)) (pe_fld (pv 1) (by rfl)) (nomark _))))))))), ?_⟩
    rcases h with ⟨q, z2, a2, b2, c2, rfl, ⟨dq, hq⟩, k⟩ | ⟨⟨t, ht, kt⟩, k⟩
    · refine ⟨_, rfl, _, _, _, _, true, rfl, .own CC, .base (.ins hq T.cl T.ha T.hn T.ht T.hm), kit_self, true, rfl, iteT ?_⟩
      refine ⟨_, rfl, p, CC, dx, _, .str z, rfl, hp, T.cl, T.n1, colF_name _ _ _ _, _, rfl, q, CC, dq, _, .str z2, rfl, hq, T.cl, T.n1, colF_name _ _ _ _, rfl, _, rfl, dec_if rfl (fun e1 => ?_) (fun e1 => ?_)⟩
      · cases e1
        refine ⟨_, rfl, p, CC, dx, _, .bl a, rfl, hp, T.cl, T.n2, colF_large _ _ _ _, _, rfl, q, CC, dq, _, .bl a2, rfl, hq, T.cl, T.n2, colF_large _ _ _ _, rfl, _, rfl, dec_if rfl (fun e2 => ?_) (fun e2 => ?_)⟩
        · cases e2
          refine ⟨_, rfl, p, CC, dx, _, .bl b, rfl, hp, T.cl, T.n3, colF_fixed _ _ _ _, _, rfl, q, CC, dq, _, .bl b2, rfl, hq, T.cl, T.n3, colF_fixed _ _ _ _, rfl, _, rfl, dec_if rfl (fun e3 => ?_) (fun e3 => ?_)⟩
          · cases e3
            refine ⟨_, rfl, p, CC, dx, _, .bl c, rfl, hp, T.cl, T.n4, colF_empty _ _ _ _, _, rfl, q, CC, dq, _, .bl c2, rfl, hq, T.cl, T.n4, colF_empty _ _ _ _, rfl, ?_⟩
            have e4 : decide (V.bl c = V.bl c2) = decide (z = z ∧ a = a ∧ b = b ∧ c = c2) := by cases c <;> cases c2 <;> simp
            rw [e4]
            exact k
          · rw [decide_eq_false (fun h => e3 (by rw [h.2.2.1]))] at k
            exact k
        · rw [decide_eq_false (fun h => e2 (by rw [h.2.1]))] at k
          exact k
      · rw [decide_eq_false (fun h => e1 (by rw [h.1]))] at k
        exact k
    · exact ⟨_, rfl, _, _, _, _, false, rfl, .own CC, ht, kt, false, rfl, iteF k⟩
end
/-! Column(name, large=, fixed=, empty=), nothing wrong -/
def spColG (CC : Addr) : Sp := fun vs H Q _ => ∃ (p dx : Addr) (z : Str) (a b c : Bool), vs = [.ref p, .str z, .bl a, .bl b, .bl c] ∧ IsWord z ∧ z ≠ "key" ∧ H p = some (.ins CC dx []) ∧ ∀ G, Keep p H G → Col CC G p z a b c → Q .non G
abbrev nCol : List Str := ["self", "name", "large", "fixed", "empty"]
abbrev ColD (K : PySem.W.Frag) (f : Addr) (fd : FuncData) : Prop := FunD K "__init__" "Column.__init__" (defArgs sColI) (defBody sColI) (defScope sColI) [] [("large", .bl false), ("fixed", .bl false), ("empty", .bl false)] f fd
section
variable {P : Program} {w : World} {K : PySem.W.Frag} {mg : Str → Option Value} {base : Heap} {CC CT : Addr}
theorem scColI : FnScope nCol nCol (defScope sColI) := ⟨rfl, rfl, rfl, by decide +kernel, rfl, by decide +kernel, by decide +kernel⟩
theorem ok_colI {f : Addr} {fd : FuncData} (F : ColD K f fd) (T : TxtC K mg CC CT) (cW : Cal P w K mg base CX0 "is_word" 1 ["value"] (spIsWord K)) : FnOk P w K mg base CX0 2 f fd nCol (spColG CC) := by
  obtain ⟨uk, hk⟩ := T.key
  refine F.ok scColI (fun vs H Q E h => ?_) (fun cdv A outer s H vs Q E hr h => ?_)
  · obtain ⟨p, dx, z, a, b, c, rfl, _⟩ := h
    rfl
  · obtain ⟨p, dx, z, a, b, c, rfl, hz, hne, hp, k⟩ := h
    refine ⟨_, PSs.nox (pss_cons (ps_if (PW.pt (pw_or (pt_not (pt_val (pe_cal cW hr (pa_cons (pv 1) pa_nil)))) (pw_or1 (pt_cmpR op_eq (pv 1) (ClX.pe_cval (pe_glob (v := .ref CT) rfl T.gT rfl)) (nomark _))))) (pss_one ps_never) pss_nil)
      (pss_cons (ps_fld (pv 0) (pv 1) rfl) (pss_cons (ps_fld (pv 0) (pv 2) rfl) (pss_cons (ps_fld (pv 0) (pv 3) rfl) (pss_one (ps_fld (pv 0) (pv 4) rfl)))))), ?_⟩
    refine sq_if1 (fun b' H' => Same H H' ∧ b' = false) (fun Q q => ?_) ?_ ?_
    · refine ⟨_, rfl, _, _, rfl, .inl ⟨z, rfl, Nat.le_trans hz.2.1 (by decide), rfl⟩, fun H' s => ⟨_, rfl, ?_⟩⟩
      rw [isWordB_true hz]
      refine iteF ⟨_, rfl, CT, _, _, uk, rfl, T.rd, hk, rfl, _, rfl, q _ _ ⟨s, decide_eq_false fun e => hne (V.str.inj e)⟩⟩
    · rintro _ ⟨_, e⟩
      cases e
    rintro H1 ⟨s1, _⟩
    have p1 := s1 _ _ hp
    refine ⟨_, rfl, _, rfl, p, CC, dx, _, rfl, p1, T.cl, T.n1, (by show 0 < 1000; decide), _, rfl, _, rfl, p, CC, dx, _, rfl, upd_same, T.cl, T.n2, (by show 1 < 1000; decide), ?_⟩
    refine ⟨_, rfl, _, rfl, p, CC, dx, _, rfl, upd_same, T.cl, T.n3, ?_, _, rfl, _, rfl, p, CC, dx, _, rfl, upd_same, T.cl, T.n4, ?_, ?_⟩
    · have e1 : ¬ (("name" : Str) = "large") := by decide +kernel
      simp only [putF, e1, if_false]
      show 2 < 1000
      decide
    · have e1 : ¬ (("name" : Str) = "large") := by decide +kernel
      have e2 : ¬ (("name" : Str) = "fixed") := by decide +kernel
      have e4 : ¬ (("large" : Str) = "fixed") := by decide +kernel
      simp only [putF, e1, e2, e4, if_false]
      show 3 < 1000
      decide
    · refine k _ (fun x o n h => ?_) ⟨dx, upd_same⟩
      rw [upd_ne n, upd_ne n, upd_ne n, upd_ne n]
      exact s1 x o h
end
/-! tables: what they tell -/
structure ColR where
  n : Str
  l : Bool
  f : Bool
  e : Bool
deriving DecidableEq
def ColAt (CC : Addr) (H : Hp) (p : Addr) (c : ColR) : Prop := Col CC H p c.n c.l c.f c.e
theorem ColAt.same {CC : Addr} {H G : Hp} {p : Addr} {c : ColR} (s : Same H G) (h : ColAt CC H p c) : ColAt CC G p c := Col.same s h
def nmsV (cs : List ColR) : List V := (cs.map ColR.n).map V.str
def TabAt (CC CT : Addr) (H : Hp) (p : Addr) (cs : List ColR) : Prop := ∃ (dx t n : Addr) (ps : List Addr), H p = some (.ins CT dx [("columns", .ref t), ("names", .ref n)]) ∧ H t = some (.tup (ps.map V.ref)) ∧ H n = some (.tup (nmsV cs)) ∧ Paired (ColAt CC H) ps cs
theorem pr_map {α β : Type} {R R' : α → β → Prop} (h : ∀ x y, R x y → R' x y) : ∀ {xs : List α} {ys : List β}, Paired R xs ys → Paired R' xs ys
  | _, _, .nil => .nil
  | _, _, .cons a r => .cons (h _ _ a) (pr_map h r)
theorem pr_len {α β : Type} {R : α → β → Prop} : ∀ {xs : List α} {ys : List β}, Paired R xs ys → xs.length = ys.length
  | _, _, .nil => rfl
  | _, _, .cons _ r => by rw [List.length_cons, List.length_cons, pr_len r]
theorem pr_at {α β : Type} {R : α → β → Prop} : ∀ {xs : List α} {ys : List β} {i : Nat} {x : α} {y : β}, Paired R xs ys → xs[i]? = some x → ys[i]? = some y → R x y
  | _, _, 0, _, _, .cons a r, h1, h2 => by cases h1; cases h2; exact a
  | _, _, i + 1, _, _, .cons a r, h1, h2 => pr_at (i := i) r (by simpa using h1) (by simpa using h2)
  | _, _, i, _, _, .nil, h1, _ => by simp at h1
theorem pr_snoc {α β : Type} {R : α → β → Prop} : ∀ {xs : List α} {ys : List β} {x : α} {y : β}, Paired R xs ys → R x y → Paired R (xs ++ [x]) (ys ++ [y])
  | _, _, _, _, .nil, h => .cons h .nil
  | _, _, _, _, .cons a r, h => .cons a (pr_snoc r h)
theorem TabAt.same {CC CT : Addr} {H G : Hp} {p : Addr} {cs : List ColR} (s : Same H G) (h : TabAt CC CT H p cs) : TabAt CC CT G p cs := by
  obtain ⟨dx, t, n, ps, h1, h2, h3, h4⟩ := h
  exact ⟨dx, t, n, ps, s _ _ h1, s _ _ h2, s _ _ h3, pr_map (fun _ _ => ColAt.same s) h4⟩
structure GoodC (cs : List ColR) : Prop where
  nd : (cs.map ColR.n).Nodup
  lo : 1 ≤ cs.length
  hi : cs.length ≤ 3
  w : ∀ c ∈ cs, IsWord c.n ∧ c.n ≠ "key"
structure TxtTb (K : PySem.W.Frag) (mg : Str → Option Value) (CC CT : Addr) : Prop where
  cl : Cls K CT
  n1 : NoAttr K CT "columns"
  n2 : NoAttr K CT "names"
  most : ∃ u, ClX.CVal K CT (.type "type") "MOST" (.int 3) u
  len : mg "len" = none
  enum : mg "enumerate" = none
  tuple : mg "tuple" = none
  list : mg "list" = none
  ha : PySem.W.findIn K (.ref CT) "__class__" = some (some (.builtin "object.__class__"))
  hm : PySem.W.mroIn K CT (.type "object") = some true
def spTabG (CC CT : Addr) : Sp := fun vs H Q _ => ∃ (p dx b : Addr) (ps : List Addr) (cs : List ColR), vs = [.ref p, .ref b] ∧ H p = some (.ins CT dx []) ∧ H b = some (.lst (ps.map V.ref)) ∧ Paired (ColAt CC H) ps cs ∧ GoodC cs ∧ CT ≠ CC ∧ ∀ G, Keep p H G → TabAt CC CT G p cs → Q .non G
section
variable {P : Program} {w : World} {K : PySem.W.Frag} {mg : Str → Option Value} {base : Heap} {CC CT C : Addr}
abbrev nTab : List Str := ["self", "columns", "names", "at", "column"]
theorem scTabI : FnScope nTab ["self", "columns"] (defScope sTabI) := ⟨rfl, rfl, rfl, by decide +kernel, rfl, by decide +kernel, by decide +kernel⟩
theorem ok_tabG {f : Addr} {fd : FuncData} (F : MethD K "__init__" "Table.__init__" sTabI f fd) (T : TxtC K mg CC CT) (U : TxtTb K mg CC CT) : FnOk P w K mg base CX0 1 f fd ["self", "columns"] (spTabG CC CT) := by
  obtain ⟨um, hmost⟩ := U.most
  refine F.ok scTabI (fun vs H Q E h => ?_) (fun cdv A outer s H vs Q E hr h => ?_)
  · obtain ⟨p, dx, b, ps, cs, rfl, _⟩ := h
    rfl
  · obtain ⟨p, dx, b, ps, cs, rfl, hp, hb0, hc, gc, ne, k⟩ := h
    have nd := scTabI.nd
    refine ⟨_, PSs.nox (pss_cons (ps_if (pt_not (pt_chain op_le op_le pe_int (pe_callB call_len_seq (by rfl) U.len PySem.boot_len (pa_cons (pv 1) pa_nil)) (ClX.pe_cval (pe_glob (v := .ref CT) rfl T.gT rfl))))
        (pss_one ps_never) pss_nil)
      (pss_cons (ps_set (i := 2) nd rfl (Or.inl rfl) (pe_lst pa_nil))
      (pss_cons (ps_for PassesOwn.never rfl (pi_enum rfl U.enum (pa_cons (pv 1) pa_nil)) (pg_tup (by rfl) (pgs_cons (pg_name (i := 3) nd rfl (Or.inl rfl)) (pgs_cons (pg_name (i := 4) nd rfl (Or.inl rfl)) pgs_nil)))
        (pss_cons (ps_if (PW.pt (pw_or (pt_not (pt_val (pe_callB call_isi (by rfl) T.isi (by decide +kernel) (pa_cons (pv 4) (pa_cons (pe_glob (v := .ref CC) rfl T.gC rfl) pa_nil))))) (pw_or1 (pt_cmpR op_in_seq (pe_fld (pv 4) (by rfl)) (pv 2) (by rfl)))))
          (pss_one ps_never) pss_nil)
        (pss_one (ps_expr (pe_bm PySem.F.plainAttrs_list PySem.F.slot_list_append PySem.F.type_list_append mt_append (pv 2) (pa_cons (pe_fld (pv 4) (by rfl)) pa_nil))))))
      (pss_cons (ps_fld (pv 0) (pe_callTy call_tuple_of (by rfl) U.tuple (by decide +kernel) (pa_cons (pv 1) pa_nil)) rfl)
      (pss_one (ps_fld (pv 0) (pe_callTy call_tuple_of (by rfl) U.tuple (by decide +kernel) (pa_cons (pv 2) pa_nil)) rfl)))))), ?_⟩
    have lp := pr_len hc
    have bp : b ≠ p := fun e => by subst e; rw [hp] at hb0; cases hb0
    have l1 : (1 : Int) ≤ (ps.map V.ref).length := by rw [List.length_map, lp]; exact Int.ofNat_le.mpr gc.lo
    have l3 : ((ps.map V.ref).length : Int) ≤ 3 := by rw [List.length_map, lp]; exact Int.ofNat_le.mpr gc.hi
    refine sq_if1 (fun b' H' => H = H' ∧ b' = false) (fun Q q => ?_) ?_ ?_
    · refine ⟨_, rfl, b, _, rfl, .inl (SqL.of hb0), _, _, rfl, rfl, _, rfl, ?_⟩
      rw [decide_eq_true l1]
      refine ⟨CT, _, _, um, rfl, T.rd, hmost, _, _, rfl, rfl, _, rfl, ?_⟩
      rw [decide_eq_true l3]
      exact q _ _ ⟨rfl, rfl⟩
    · rintro _ ⟨_, e⟩
      cases e
    rintro _ ⟨rfl, _⟩
    refine ⟨(by show 0 ≤ sizeLine; decide), fun nm hnm => ?_⟩
    have nb : nm ≠ b := fun e => by subst e; rw [hnm] at hb0; cases hb0
    have np : nm ≠ p := fun e => by subst e; rw [hnm] at hp; cases hp
    have s0 := Lw.Same.new (o := .lst []) (Same.refl H) hnm
    refine ⟨_, rfl, b, _, rfl, SqL.of (s0 _ _ hb0), ?_⟩
    refine for_it (walk_enum (xs := ps.map V.ref)) (fun i σ H' => ∃ (v3 v4 : Option V), σ = [some (.ref p), some (.ref b), some (.ref nm), v3, v4] ∧ Same H H' ∧ H' nm = some (.lst ((nmsV cs).take i)))
      ⟨_, _, rfl, s0, upd_same⟩ (fun i σ H' _ ⟨_, _, _, s', _⟩ => SqL.of (s' _ _ hb0)) ?_ ?_
    · rintro i x σ H1 H2 hi ⟨v3, v4, rfl, sH, hz⟩ ⟨t, x0, x1, rfl, nt, rfl, q1, q2⟩
      cases q1
      have q3 : (ps.map V.ref)[i]? = some x1 := q2
      rw [List.getElem?_map] at q3
      obtain ⟨q', hq', rfl⟩ := Option.map_eq_some_iff.mp q3
      have il : i < cs.length := by rw [← lp]; exact (List.getElem?_eq_some_iff.mp hq').1
      have ec : cs[i]? = some cs[i] := List.getElem?_eq_getElem il
      have en : (nmsV cs)[i]? = some (.str cs[i].n) := by
        unfold nmsV
        rw [List.getElem?_map, List.getElem?_map, ec]
        rfl
      have s2 : Same H (upd H1 t (.tup [.int (i : Nat), .ref q'])) := Lw.Same.new sH nt
      have hz2 : (upd H1 t (.tup [.int (i : Nat), .ref q'])) nm = some (.lst ((nmsV cs).take i)) := (Lw.Same.new (Same.refl H1) nt) _ _ hz
      refine ⟨t, _, rfl, SqT.of upd_same, rfl, _, _, rfl, _, _, rfl, rfl, ?_⟩
      generalize upd H1 t (.tup [.int (i : Nat), .ref q']) = H2 at s2 hz2 ⊢
      obtain ⟨dc, hcq⟩ : ColAt CC H2 q' cs[i] := (pr_at hc hq' ec).same s2
      have notin : inV (.str cs[i].n) ((nmsV cs).take i) = false := by
        unfold nmsV
        rw [← List.map_take, inV_str]
        refine decide_eq_false fun m => ?_
        obtain ⟨j, hj⟩ := List.getElem?_of_mem m
        have jl := (List.getElem?_eq_some_iff.mp hj).1
        rw [List.length_take] at jl
        rw [List.getElem?_take_of_lt (by omega)] at hj
        have e2 : (cs.map ColR.n)[i]? = some cs[i].n := by rw [List.getElem?_map, ec]; rfl
        have := (List.getElem?_inj (by rw [List.length_map]; omega) gc.nd).mp (hj.trans e2.symm)
        omega
      refine sq_if1 (fun b' H3 => H2 = H3 ∧ b' = false) (fun Q q => ?_) ?_ ?_
      · refine ⟨_, rfl, _, _, _, _, true, rfl, .own CC, .base (.ins hcq T.cl T.ha T.hn T.ht T.hm), kit_self, true, rfl, iteF ?_⟩
        refine ⟨_, rfl, q', CC, dc, _, .str cs[i].n, rfl, hcq, T.cl, T.n1, colF_name _ _ _ _, _, rfl, nm, _, rfl, .inl (SqL.of hz2), rfl, ?_, ?_⟩
        · unfold nmsV
          rw [← List.map_take]
          exact flat_strs _
        · exact ⟨_, rfl, q _ _ ⟨rfl, notin⟩⟩
      · rintro _ ⟨_, e⟩
        cases e
      rintro _ ⟨rfl, _⟩
      refine ⟨_, rfl, .inl ⟨rfl, _, SqL.of hz2⟩, _, rfl, q', CC, dc, _, .str cs[i].n, rfl, hcq, T.cl, T.n1, colF_name _ _ _ _, nm, _, _, rfl, rfl, hz2, ?_, ?_⟩
      · rw [List.length_take]
        have h9 : sizeLine = 16777216 := by decide
        have := gc.hi
        omega
      · refine ⟨_, _, rfl, fun b' o' h' => ?_, ?_⟩
        · rw [upd_ne (fun z => by subst z; rw [hnm] at h'; cases h')]
          exact s2 _ _ h'
        · rw [upd_same, List.take_succ, en]
          rfl
    · rintro σ H' ⟨v3, v4, rfl, sH, hz⟩
      have ln : (nmsV cs).length = cs.length := by unfold nmsV; rw [List.length_map, List.length_map]
      rw [List.length_map, lp, ← ln, List.take_length] at hz
      have hp' := sH _ _ hp
      have hb' := sH _ _ hb0
      dsimp only
      refine ⟨_, rfl, b, _, rfl, .inl ⟨SqL.of hb', fun l1 n1 => ?_⟩⟩
      have pl1 : l1 ≠ p := fun e => by subst e; rw [hp'] at n1; cases n1
      have nl1 : l1 ≠ nm := fun e => by subst e; rw [hz] at n1; cases n1
      refine ⟨_, rfl, p, CT, dx, _, rfl, by rw [upd_ne pl1.symm]; exact hp', U.cl, U.n1, (by show 0 < 1000; decide), ?_⟩
      refine ⟨_, rfl, nm, _, rfl, .inl ⟨SqL.of (by rw [upd_ne np, upd_ne nl1.symm]; exact hz), fun l2 n2 => ?_⟩⟩
      have pl2 : l2 ≠ p := fun e => by subst e; rw [upd_same] at n2; cases n2
      have l12 : l2 ≠ l1 := fun e => by subst e; rw [upd_ne pl1, upd_same] at n2; cases n2
      refine ⟨_, rfl, p, CT, dx, _, rfl, by rw [upd_ne pl2.symm]; exact upd_same, U.cl, U.n2, (by show 1 < 1000; decide), ?_⟩
      have kp : Keep p H (upd (upd (upd (upd H' l1 (.tup (ps.map V.ref))) p (.ins CT dx (putF "columns" (.ref l1) []))) l2 (.tup (nmsV cs))) p (.ins CT dx (putF "names" (.ref l2) (putF "columns" (.ref l1) [])))) := fun b' o' nb' h' => by
        have h1 := sH _ _ h'
        have m1 : b' ≠ l1 := ne_of_none h1 n1
        have h2 : (upd (upd H' l1 (.tup (ps.map V.ref))) p (.ins CT dx (putF "columns" (.ref l1) []))) b' = some o' := by rw [upd_ne nb', upd_ne m1]; exact h1
        have m2 : b' ≠ l2 := ne_of_none h2 n2
        rw [upd_ne nb', upd_ne m2]
        exact h2
      refine k _ kp ⟨dx, l1, l2, ps, upd_same, ?_, ?_, pr_map (fun q c hqc => ?_) hc⟩
      · rw [upd_ne pl1, upd_ne l12.symm, upd_ne pl1]
        exact upd_same
      · rw [upd_ne pl2]
        exact upd_same
      · obtain ⟨dc, hcq⟩ := hqc
        exact ⟨dc, kp _ _ (fun e => by rw [e, hp] at hcq; exact ne (HO.ins.inj (Option.some.inj hcq)).1) hcq⟩
end
end Lw

set_option Elab.async false
set_option linter.all false
set_option maxRecDepth 100000
set_option maxHeartbeats 40000000
namespace Lw
open PySem PySem.Spec PyProof.Rows L2
abbrev sNcI : Stmt := inClass (top 9) 0
abbrev sTabIn : Stmt := inClass (top 12) 6
abbrev sTabLen : Stmt := inClass (top 12) 7
abbrev sTabE : Stmt := inClass (top 12) 8
abbrev sTabC : Stmt := inClass (top 12) 4
section
variable {P : Program} {w : World} {K : PySem.W.Frag} {mg : Str → Option Value} {base : Heap}
end
open Lg
/-! copied, of flat values and of what holds flat values -/
inductive Fl : V → PyData → Prop where
  | non : Fl .non .none
  | bl (b : Bool) : Fl (.bl b) (.bool b)
  | int (i : Int) : Fl (.int i) (.int i)
  | str (z : Str) : Fl (.str z) (.str z)
theorem Fl.da {H : Hp} {v : V} {d : PyData} (h : Fl v d) : Da H v d := by
  cases h with
  | non => exact .non
  | bl b => exact .bl b
  | int i => exact .int i
  | str z => exact .str z
theorem Fl.nt {K : PySem.W.Frag} {H : Hp} {v : V} {d : PyData} (h : Fl v d) : NotTy K H v "list" ∧ NotTy K H v "tuple" ∧ NotTy K H v "dict" := by
  cases h with
  | non => exact ⟨⟨_, ty_non, by decide +kernel⟩, ⟨_, ty_non, by decide +kernel⟩, ⟨_, ty_non, by decide +kernel⟩⟩
  | bl b => exact ⟨⟨_, ty_bl b, by decide +kernel⟩, ⟨_, ty_bl b, by decide +kernel⟩, ⟨_, ty_bl b, by decide +kernel⟩⟩
  | int i => exact ⟨⟨_, ty_int i, by decide +kernel⟩, ⟨_, ty_int i, by decide +kernel⟩, ⟨_, ty_int i, by decide +kernel⟩⟩
  | str z => exact nt_str z
theorem fl_all {H : Hp} : ∀ {xs : List V} {ds : List PyData}, Paired Fl xs ds → DaAll H xs ds
  | _, _, .nil => .nil
  | _, _, .cons h r => .cons h.da (fl_all r)
theorem fl_at : ∀ {xs : List V} {ds : List PyData} {i : Nat} {v : V}, Paired Fl xs ds → xs[i]? = some v → ∃ d, Fl v d
  | _, _, 0, _, .cons h r, e => by cases e; exact ⟨_, h⟩
  | _, _, i + 1, _, .cons h r, e => fl_at (i := i) r (by simpa using e)
  | _, _, i, _, .nil, e => by simp at e
inductive Sh (H : Hp) : V → PyData → Prop where
  | fl {v : V} {d : PyData} (h : Fl v d) : Sh H v d
  | lst {a : Addr} {xs : List V} {ds : List PyData} (h : H a = some (.lst xs)) (p : Paired Fl xs ds) (n : xs.length ≤ 1000) : Sh H (.ref a) (.list ds)
  | tup {a : Addr} {xs : List V} {ds : List PyData} (h : H a = some (.tup xs)) (p : Paired Fl xs ds) (n : xs.length ≤ 1000) : Sh H (.ref a) (.tuple ds)
  | dic {a : Addr} {z : Str} {v : V} {d : PyData} (h : H a = some (.dK [(.inr z, v)])) (f : Fl v d) : Sh H (.ref a) (.dict [(.str z, d)])
theorem Sh.da {H : Hp} {v : V} {d : PyData} (h : Sh H v d) : Da H v d := by
  cases h with
  | fl h => exact h.da
  | lst h p n => exact .lst h (fl_all p)
  | tup h p n => exact .tup h (fl_all p)
  | @dic a z v d h f => exact .dic (ds := [d]) h (.cons f.da .nil)
def spCopy : Sp := fun vs H Q _ => ∃ (v : V) (d : PyData), vs = [v] ∧ Sh H v d ∧ ∀ G v', Same H G → Sh G v' d → Q v' G
abbrev nCop : List Str := ["value", "part", "name"]
section
variable {P : Program} {w : World} {K : PySem.W.Frag} {mg : Str → Option Value} {base : Heap}
theorem ok_copy {f : Addr} {fd : FuncData} (F : FnP K "copied" sCopied f fd) (T : TxtP mg) (cC : Cal P w K mg base CX0 "copied" 1 ["value"] (spCopied K)) : FnOk P w K mg base CX0 2 f fd ["value"] spCopy := by
  refine F.ok scCopied (fun vs H Q E h => ?_) (fun cdv A outer s H vs Q E hr h => ?_)
  · obtain ⟨v, d, rfl, _⟩ := h
    rfl
  · obtain ⟨v, d, rfl, hs, k⟩ := h
    have nd := scCopied.nd
    have hu := hu_of hr
    refine ⟨_, PSs.nox (pss_cons (ps_if (pt_val (pe_callB call_isi (by rfl) T.isi (by decide +kernel) (pa_cons (pv 0) (pa_cons (pe_bltn (v := .ty "list") (by rfl) T.list (by decide +kernel) rfl) pa_nil))))
        (pss_one (ps_ret (pe_lc (own := [("part", 1)]) (g := gName 1) (tt := tYes) rfl nd (pi_list (pv 0)) (blkOk_by (N := nCop) (sc := defScope sCopied) (by decide +kernel)) (fun _ _ _ _ _ => pg_name (i := 1) nd rfl (Or.inl rfl)) (fun _ _ _ _ _ => pts_nil) (fun _ _ _ _ _ => pe_cal cC hr (pa_cons (pv 1) pa_nil))))) pss_nil)
      (pss_cons (ps_if (pt_val (pe_callB call_isi (by rfl) T.isi (by decide +kernel) (pa_cons (pv 0) (pa_cons (pe_bltn (v := .ty "tuple") (by rfl) T.tuple (by decide +kernel) rfl) pa_nil))))
        (pss_one (ps_ret (pe_callTy call_tuple_of (by rfl) T.tuple (by decide +kernel) (pa_cons (pe_lc (own := [("part", 1)]) (g := gName 1) (tt := tYes) rfl nd (pi_tup (pv 0)) (blkOk_by (N := nCop) (sc := defScope sCopied) (by decide +kernel)) (fun _ _ _ _ _ => pg_name (i := 1) nd rfl (Or.inl rfl)) (fun _ _ _ _ _ => pts_nil) (fun _ _ _ _ _ => pe_cal cC hr (pa_cons (pv 1) pa_nil))) pa_nil)))) pss_nil)
      (pss_cons (ps_if (pt_val (pe_callB call_isi (by rfl) T.isi (by decide +kernel) (pa_cons (pv 0) (pa_cons (pe_bltn (v := .ty "dict") (by rfl) T.dict (by decide +kernel) rfl) pa_nil))))
        (pss_one (ps_ret (pe_lock (pe_dc (own := [("name", 2)]) (g := gName 2) (tt := tYes) rfl nd (pi_keys (pv 0)) (blkOk_by (N := nCop) (sc := defScope sCopied) (by decide +kernel)) (fun _ _ _ _ _ => pg_name (i := 2) nd rfl (Or.inl rfl)) (fun _ _ _ _ _ => pts_nil) (fun _ _ _ _ _ => pv 2) (fun _ _ _ _ _ => pe_cal cC hr (pa_cons (pe_dget hu (pv 0) (pv 2) (fun _ _ => rfl)) pa_nil)))))) pss_nil)
      (pss_one (ps_ret (pv 0)))))), ?_⟩
    have new1 : ∀ {H1 : Hp} {D : Addr} {o : HO}, Same H H1 → H D = none → Same H (upd H1 D o) := fun {H1 D o} s n b u e => by
      rw [upd_ne (ne_of_none e n)]
      exact s b u e
    cases hs with
    | @fl v d h =>
      obtain ⟨⟨t1, h1, k1⟩, ⟨t2, h2, k2⟩, ⟨t3, h3, k3⟩⟩ := h.nt (K := K) (H := H)
      exact ⟨_, rfl, _, _, _, _, false, rfl, .ty _, h1, kit_ty k1, false, rfl, iteF ⟨_, rfl, _, _, _, _, false, rfl, .ty _, h2, kit_ty k2, false, rfl, iteF ⟨_, rfl, _, _, _, _, false, rfl, .ty _, h3, kit_ty k3, false, rfl, iteF ⟨_, rfl, k _ _ (Same.refl H) (.fl h)⟩⟩⟩⟩
    | @lst a xs ds h p n =>
      refine ⟨_, rfl, _, _, _, _, true, rfl, .ty _, .base (.lst h), kit_ty (by decide +kernel), true, rfl, iteT ⟨_, rfl, a, rfl, ⟨_, SqL.of h⟩, fun D nD => ?_⟩⟩
      refine lc_list (K := K) (a := a) (xs := xs) (fun i H' => H' D = some (.lst (xs.take i)) ∧ Same H H') ⟨by rw [upd_same]; simp, Lw.Same.new (Same.refl H) nD⟩ (fun i H' _ z => SqL.of (z.2 _ _ h)) ?_ ?_
      · rintro i y H' hi ⟨hd, ss⟩
        obtain ⟨d, fd⟩ := fl_at p hi
        have il : i < xs.length := (List.getElem?_eq_some_iff.mp hi).1
        obtain ⟨n1, n2, n3⟩ := fd.nt (K := K) (H := H')
        refine ⟨rfl, _, rfl, y, rfl, n1, n2, n3, xs.take i, hd, ?_, ?_, new1 ss nD⟩
        · rw [List.length_take]; exact Nat.lt_of_le_of_lt (Nat.min_le_left _ _) (Nat.lt_of_lt_of_le il (Nat.le_trans n (by decide)))
        · rw [upd_same, List.take_add_one, hi]; rfl
      · rintro H' ⟨hd, ss⟩
        rw [List.take_length] at hd
        exact k _ _ ss (.lst hd p n)
    | @tup a xs ds h p n =>
      refine ⟨_, rfl, _, _, _, _, false, rfl, .ty _, .base (.tup h), kit_ty (by decide +kernel), false, rfl, iteF ?_⟩
      refine ⟨_, rfl, _, _, _, _, true, rfl, .ty _, .base (.tup h), kit_ty (by decide +kernel), true, rfl, iteT ⟨_, rfl, a, rfl, ⟨_, SqT.of h⟩, fun D nD => ?_⟩⟩
      refine lc_tup (K := K) (a := a) (xs := xs) (fun i H' => H' D = some (.lst (xs.take i)) ∧ Same H H') ⟨by rw [upd_same]; simp, Lw.Same.new (Same.refl H) nD⟩ (fun i H' _ z => SqT.of (z.2 _ _ h)) ?_ ?_
      · rintro i y H' hi ⟨hd, ss⟩
        obtain ⟨d, fd⟩ := fl_at p hi
        have il : i < xs.length := (List.getElem?_eq_some_iff.mp hi).1
        obtain ⟨n1, n2, n3⟩ := fd.nt (K := K) (H := H')
        refine ⟨rfl, _, rfl, y, rfl, n1, n2, n3, xs.take i, hd, ?_, ?_, new1 ss nD⟩
        · rw [List.length_take]; exact Nat.lt_of_le_of_lt (Nat.min_le_left _ _) (Nat.lt_of_lt_of_le il (Nat.le_trans n (by decide)))
        · rw [upd_same, List.take_add_one, hi]; rfl
      · rintro H' ⟨hd, ss⟩
        rw [List.take_length] at hd
        exact ⟨D, xs, rfl, .inl ⟨SqL.of hd, fun l nl => k _ _ (Lw.Same.new ss nl) (.tup upd_same p n)⟩⟩
    | @dic a z v d h f =>
      refine ⟨_, rfl, _, _, _, _, false, rfl, .ty _, .base (.dK h), kit_ty (by decide +kernel), false, rfl, iteF ?_⟩
      refine ⟨_, rfl, _, _, _, _, false, rfl, .ty _, .base (.dK h), kit_ty (by decide +kernel), false, rfl, iteF ?_⟩
      refine ⟨_, rfl, _, _, _, _, true, rfl, .ty _, .base (.dK h), kit_ty (by decide +kernel), true, rfl, iteT ?_⟩
      refine ⟨a, _, h, trivial, fun od => ⟨_, rfl, a, od, rfl, .inl ⟨_, upd_same, fun D nD => ?_⟩⟩⟩
      have Da' : D ≠ a := fun e => by subst e; rw [upd_same] at nD; cases nD
      have nD2 : H D = none := by rw [upd_ne Da'] at nD; exact nD
      have fz : ∀ o : HO, (upd (upd H a (.frz od (.dK [(.inr z, v)]))) D o) a = some (.frz od (.dK [(.inr z, v)])) := fun o => by rw [upd_ne Da'.symm]; exact upd_same
      refine ⟨fun i m H' => (i = 0 ∧ m = 1 ∧ H' = upd (upd H a (.frz od (.dK [(.inr z, v)]))) D (.dK [])) ∨ (i = 1 ∧ m = 0 ∧ H' = upd (upd H a (.frz od (.dK [(.inr z, v)]))) D (.dK [(.inr z, v)])), ⟨1, .inl ⟨rfl, rfl, rfl⟩⟩, ?_⟩
      rintro i m H' (⟨rfl, rfl, rfl⟩ | ⟨rfl, rfl, rfl⟩)
      · refine .inr ⟨⟨fz _, by simp⟩, fun H' => H' = upd (upd H a (.frz od (.dK [(.inr z, v)]))) D (.dK [(.inr z, v)]), fun H' e => ⟨0, by omega, .inr ⟨rfl, rfl, e⟩⟩, ?_⟩
        rintro x H'' ⟨rfl, k', v', hk, rfl⟩
        cases hk
        obtain ⟨n1, n2, n3⟩ := f.nt (K := K) (H := upd (upd H a (.frz od (.dK [(.inr z, v)]))) D (.dK []))
        have gt : DGet (upd (upd H a (.frz od (.dK [(.inr z, v)]))) D (.dK [])) a (.str z) (some v) := .inl ⟨[(.inr z, v)], .inr z, .inr ⟨od, fz _⟩, rfl, by simp [valV]⟩
        refine ⟨rfl, _, rfl, _, rfl, _, rfl, a, v, rfl, gt, v, rfl, n1, n2, n3, [], .inr z, rfl, upd_same, by decide, ?_⟩
        funext b
        by_cases e : b = D
        · subst e; rw [upd_same, upd_same]; rfl
        · rw [upd_ne e, upd_ne e, upd_ne e]
      · refine .inl ⟨⟨fz _, Nat.le_refl _⟩, fz _, k _ _ (fun b o e => ?_) (.dic ?_ f)⟩
        · by_cases hba : b = a
          · subst hba; rw [upd_same, ← h]; exact e
          · rw [upd_ne hba, upd_ne (ne_of_none e nD2), upd_ne hba]; exact e
        · rw [upd_ne Da', upd_same]
end
theorem Sh.move {H G : Hp} {v : V} {d : PyData} (h : Sh H v d) (k : ∀ b o, H b = some o → (∀ C, o ≠ exo b C none ∧ ∀ e, o ≠ exo b C e) → G b = some o) : Sh G v d := by
  cases h with
  | fl h => exact .fl h
  | lst h p n => exact .lst (k _ _ h fun C => ⟨fun e => (by cases e), fun x e => (by cases x <;> cases e)⟩) p n
  | tup h p n => exact .tup (k _ _ h fun C => ⟨fun e => (by cases e), fun x e => (by cases x <;> cases e)⟩) p n
  | dic h f => exact .dic (k _ _ h fun C => ⟨fun e => (by cases e), fun x e => (by cases x <;> cases e)⟩) f
theorem Sh.same {H G : Hp} {v : V} {d : PyData} (h : Sh H v d) (s : Same H G) : Sh G v d := h.move fun b o e _ => s b o e
theorem same_none {H H1 : Hp} {d : Addr} (s : Same H H1) (h : H1 d = none) : H d = none := by
  cases e : H d with
  | none => rfl
  | some o => rw [s _ _ e] at h; cases h
section
variable {P : Program} {w : World} {K : PySem.W.Frag} {mg : Str → Option Value} {base : Heap}
theorem itTb {b : Bool} {A B : Prop} (h : b = true) (a : A) : if b = true then A else B := by rw [if_pos h]; exact a
theorem itFb {b : Bool} {A B : Prop} (h : b = false) (a : B) : if b = true then A else B := by rw [h, if_neg Bool.false_ne_true]; exact a
/-! NoColumn(name) -/
def nmF (v : V) : List (Str × V) := [("name", v)]
def spNc (C : Addr) : Sp := fun vs H Q _ => ∃ (a : Addr) (v : V) (d : PyData), vs = [.ref a, v] ∧ Sh H v d ∧ H a = some (exo a C none) ∧
  ∀ (G : Hp) (v' : V), Same H G → Sh G v' d → ∀ dd, G dd = none → dd ≠ a → Q .non (upd (upd G dd (exd dd (nmF v'))) a (exo a C (some dd)))
structure TxtNc (K : PySem.W.Frag) (mg : Str → Option Value) (C : Addr) (newId : String) : Prop where
  oex : Ge.OexT K C Ge.leTail newId
  nA : PySem.W.findIn K (.ref C) "name" = some none
  gN : mg "NoColumn" = some (.ref C)
theorem scNc : FnScope ["self", "name"] ["self", "name"] (defScope sNcI) := ⟨rfl, rfl, rfl, by decide +kernel, rfl, by decide +kernel, by decide +kernel⟩
theorem ok_nc {C f : Addr} {fd : FuncData} {newId : String} (F : MethD K "__init__" "NoColumn.__init__" sNcI f fd) (T : TxtNc K mg C newId) (cC : Cal P w K mg base CX0 "copied" 2 ["value"] spCopy) : FnOk P w K mg base CX0 3 f fd ["self", "name"] (spNc C) := by
  refine F.ok scNc (fun vs H Q E h => ?_) (fun cdv A outer s H vs Q E hr h => ?_)
  · obtain ⟨a, v, d, rfl, _⟩ := h
    rfl
  · obtain ⟨a, v, d, rfl, hs, ha, k⟩ := h
    refine ⟨_, PSs.nox (pss_one (Ge.ps_ostT (pv 0) (pe_cal cC hr (pa_cons (pv 1) pa_nil)))), ?_⟩
    exact ⟨_, rfl, v, d, rfl, hs, fun G v' sG hv' => ⟨_, rfl, a, C, _, _, rfl, T.oex, T.nA, sG _ _ ha, fun dd nd da => k G v' sG hv' dd nd da⟩⟩
structure NcT (P : Program) (w : World) (K : PySem.W.Frag) (mg : Str → Option Value) (base : Heap) (C : Addr) : Prop where
  ex : ∃ newId f fd, TxtNc K mg C newId ∧ ExcBaseFacts "LookupError" newId "LookupError.__init__" Ge.leTail ∧ PySem.W.findIn K (.ref C) "__init__" = some (some (.ref f)) ∧ PySem.W.typeIn K (.ref f) = some (.type "function") ∧ FnOk P w K mg base CX0 3 f fd ["self", "name"] (spNc C) ∧ Binds K fd ["self", "name"] []
end
section
variable {X : Cx} {C : Addr} {e1 : Expr} {t : TA} {p pos pos2 : Pos} {W : WX}
theorem ps_nocol (B : NcT X.prog X.w X.K X.mg X.base C) (hc : X.calm = true) (hr : Room 4 X.A) (tk : L2N.Takes X W) (ha : PA X [e1] t) (hg : Gl X "NoColumn" := by rfl)
    (he : starEach [e1] X.env = (false, eval e1 X.env) :: starEach [] X.env := by rfl) (hpl : (backTo pos (starEach [] X.env)).any (·.1) = false := by rfl) :
    PS X (.Raise (some (.Call (.Name "NoColumn" p) [e1] [] pos)) none pos2) (fun _ σ H => tMkO C (spNc C) [] t σ H fun cls d H' => W cls d σ H') := by
  obtain ⟨newId, f, fd, T, B2, h1, h2, F, b⟩ := B.ex
  exact L2N.ps_raise hc tk (Ge.pmk_T B2 T.oex h1 h2 F hr b .nil pass0 T.gN ha hg (by decide) he hpl)
end
theorem nocol_tail {C : Addr} {v : V} {d : PyData} {H : Hp} {E : XK} (hs : Sh H v d) (k : ∀ dd G v', H dd = none → Same H G → G dd = some (.xd (nmF v')) → Sh G v' d → E (.ref C) (some dd) G) :
    ([v] : List V).length ≤ 1000 ∧ ∀ a, H a = none → spNc C (.ref a :: ([v] ++ [])) (upd H a (exo a C none)) (fun r H2 => r = .non ∧ ∃ (dd : Addr) (fs : List (Str × V)), H2 a = some (exo a C (some dd)) ∧ H2 dd = some (exd dd fs) ∧ H dd = none ∧ E (.ref C) (some dd) (upd (del H2 a) dd (.xd fs))) (fun _ _ _ => False) := by
  refine ⟨by show 1 ≤ 1000; decide, fun a na => ⟨a, v, d, rfl, hs.same (Lw.Same.new (Same.refl H) na), upd_same, fun G v' sG hv' dd nd da => ⟨rfl, dd, nmF v', upd_same, ?_, ?_, ?_⟩⟩⟩
  · rw [upd_ne da, upd_same]
  · cases e : H dd with
    | none => rfl
    | some o =>
      have z := sG dd o (by rw [upd_ne da]; exact e)
      rw [nd] at z
      cases z
  · have hd : H dd = none := by
      cases e : H dd with
      | none => rfl
      | some o =>
        have z := sG dd o (by rw [upd_ne da]; exact e)
        rw [nd] at z
        cases z
    have ga := sG a _ upd_same
    have at_ : ∀ b o, G b = some o → b ≠ a → (upd (del (upd (upd G dd (exd dd (nmF v'))) a (exo a C (some dd))) a) dd (.xd (nmF v'))) b = some o := fun b o e n => by
      have nb : b ≠ dd := fun z => by subst z; rw [nd] at e; cases e
      rw [upd_ne nb, del_ne n, upd_ne n, upd_ne nb]
      exact e
    refine k dd _ v' hd (fun b o e => ?_) upd_same (hv'.move fun b o e q => at_ b o e fun z => ?_)
    · have n := ne_of_none e na
      exact at_ b o (sG b o (by rw [upd_ne n]; exact e)) n
    · subst z
      rw [ga] at e
      cases e
      exact (q C).1 rfl
/-! what a table is asked -/
theorem same_nm {CC CT : Addr} {H : Hp} {ps : List Addr} {cs : List ColR} (h : Paired (ColAt CC H) ps cs) : ps.length = cs.length := pr_len h
def inN (cs : List ColR) (v : V) : Bool := cs.any fun c => Et.isT c.n v
def spTabC (CC CT CN : Addr) : Sp := fun vs H Q E => ∃ (p : Addr) (v : V) (cs : List ColR), vs = [.ref p, v] ∧ TabAt CC CT H p cs ∧ Et.Pw H v ∧
  ((∃ (i : Nat) (c : ColR), cs[i]? = some c ∧ v = .str c.n ∧ (∀ j c', j < i → cs[j]? = some c' → c'.n ≠ c.n) ∧ ∀ q, ColAt CC H q c → Q (.ref q) H) ∨
   (inN cs v = false ∧ ∃ d, Sh H v d ∧ ∀ dd G v', H dd = none → Same H G → G dd = some (.xd (nmF v')) → Sh G v' d → E (.ref CN) (some dd) G))
def spTabIn (CC CT : Addr) : Sp := fun vs H Q _ => ∃ (p : Addr) (v : V) (cs : List ColR), vs = [.ref p, v] ∧ TabAt CC CT H p cs ∧ Et.Pw H v ∧ Q (.bl (inN cs v)) H
def spTabLen (CC CT : Addr) : Sp := fun vs H Q _ => ∃ (p : Addr) (cs : List ColR), vs = [.ref p] ∧ TabAt CC CT H p cs ∧ Q (.int (cs.length : Nat)) H
def spTabE (K : PySem.W.Frag) (CC CT : Addr) : Sp := fun vs H Q _ => ∃ (p : Addr) (y : V) (cs : List ColR), vs = [.ref p, y] ∧ TabAt CC CT H p cs ∧
  ((∃ q ds, y = .ref q ∧ TabAt CC CT H q ds ∧ Q (.bl (decide (cs = ds))) H) ∨ (NotCol K CT H y ∧ Q (.bl false) H))
section
variable {P : Program} {w : World} {K : PySem.W.Frag} {mg : Str → Option Value} {base : Heap} {CC CT CN : Addr}
theorem inN_of {ts : List ColR} {z : Str} : inN ts (.str z) = decide (z ∈ ts.map ColR.n) := by
  unfold inN
  induction ts with
  | nil => rfl
  | cons c r ih =>
    rw [List.any_cons, ih, List.map_cons]
    show (decide (c.n = z) || decide (z ∈ r.map ColR.n)) = decide (z ∈ c.n :: r.map ColR.n)
    by_cases e : c.n = z
    · rw [decide_eq_true e, Bool.true_or]
      exact (decide_eq_true (by rw [e]; exact List.mem_cons_self)).symm
    · rw [decide_eq_false e, Bool.false_or]
      refine decide_eq_decide.mpr ⟨fun h => List.mem_cons_of_mem _ h, fun h => (List.mem_cons.mp h).resolve_left fun q => e q.symm⟩
theorem inN_no {ts : List ColR} {v : V} (h : ∀ z, Et.isT z v = false) : inN ts v = false := by
  unfold inN
  rw [List.any_eq_false]
  intro c _
  rw [h]
  exact Bool.false_ne_true
theorem inV_no' {ts : List Str} {v : V} (h : ∀ z, eqV (.str z) v = false) : inV v (ts.map V.str) = false := by
  induction ts with
  | nil => rfl
  | cons z ts ih =>
    show (eqV (.str z) v || inV v (ts.map V.str)) = false
    rw [h z, ih]
    rfl
theorem inV_N {ts : List ColR} {v : V} (h : ∀ z, eqV (.str z) v = false) : inV v (nmsV ts) = false := inV_no' h
theorem scTabIn : FnScope ["self", "x"] ["self", "x"] (defScope sTabIn) := ⟨rfl, rfl, rfl, by decide +kernel, rfl, by decide +kernel, by decide +kernel⟩
theorem ok_tabIn {f : Addr} {fd : FuncData} (F : MethD K "__contains__" "Table.__contains__" sTabIn f fd) (U : TxtTb K mg CC CT) : FnOk P w K mg base CX0 1 f fd ["self", "x"] (spTabIn CC CT) := by
  refine F.ok scTabIn (fun vs H Q E h => ?_) (fun cdv A outer s H vs Q E hr h => ?_)
  · obtain ⟨p, v, cs, rfl, _⟩ := h
    rfl
  · obtain ⟨p, v, cs, rfl, ⟨dx, t, n, ps, h1, h2, h3, h4⟩, pw, k⟩ := h
    refine ⟨_, PSs.nox (pss_one (ps_ret (pe_cmpR (r := Iw.rInW K false) (by exact Iw.op_inW hr.units) (pv 1) (pe_fld (pv 0) (by rfl)) (by rfl)))), ?_⟩
    refine ⟨_, rfl, _, rfl, p, CT, dx, _, _, rfl, h1, U.cl, U.n2, rfl, n, cs.map ColR.n, rfl, .inr (SqT.of h3), ?_⟩
    cases pw with
    | str z =>
      refine .inl ⟨rfl, ?_⟩
      rw [inN_of] at k
      rw [if_neg Bool.false_ne_true, inV_str]
      exact k
    | non =>
      refine .inl ⟨rfl, ?_⟩
      rw [inN_no (fun _ => rfl)] at k
      rw [if_neg Bool.false_ne_true, inV_no' (fun _ => rfl)]
      exact k
    | int i =>
      refine .inl ⟨rfl, ?_⟩
      rw [inN_no (fun _ => rfl)] at k
      rw [if_neg Bool.false_ne_true, inV_no' (fun _ => rfl)]
      exact k
    | bl b =>
      refine .inl ⟨rfl, ?_⟩
      rw [inN_no (fun _ => rfl)] at k
      rw [if_neg Bool.false_ne_true, inV_no' (fun _ => rfl)]
      exact k
    | box b =>
      rw [inN_no (fun _ => rfl)] at k
      exact .inr ⟨_, rfl, b, k⟩
theorem scTabLen : FnScope ["self"] ["self"] (defScope sTabLen) := ⟨rfl, rfl, rfl, by decide +kernel, rfl, by decide +kernel, by decide +kernel⟩
theorem ok_tabLen {f : Addr} {fd : FuncData} (F : MethD K "__len__" "Table.__len__" sTabLen f fd) (U : TxtTb K mg CC CT) : FnOk P w K mg base CX0 1 f fd ["self"] (spTabLen CC CT) := by
  refine F.ok scTabLen (fun vs H Q E h => ?_) (fun cdv A outer s H vs Q E hr h => ?_)
  · obtain ⟨p, cs, rfl, _⟩ := h
    rfl
  · obtain ⟨p, cs, rfl, ⟨dx, t, n, ps, h1, h2, h3, h4⟩, k⟩ := h
    refine ⟨_, PSs.nox (pss_one (ps_ret (pe_callB call_len_seq (by rfl) U.len PySem.boot_len (pa_cons (pe_fld (pv 0) (by rfl)) pa_nil)))), ?_⟩
    refine ⟨_, rfl, p, CT, dx, _, _, rfl, h1, U.cl, U.n1, rfl, t, _, rfl, .inr (SqT.of h2), ?_⟩
    rw [List.length_map, pr_len h4]
    exact k
theorem scTabE : FnScope ["self", "other"] ["self", "other"] (defScope sTabE) := ⟨rfl, rfl, rfl, by decide +kernel, rfl, by decide +kernel, by decide +kernel⟩
theorem all_eq {cs ds : List ColR} : (decide (cs.length = ds.length) && (List.range (min cs.length ds.length)).all fun i => decide (cs[i]? = ds[i]?)) = decide (cs = ds) := by
  by_cases e : cs = ds
  · subst e
    rw [decide_eq_true rfl, decide_eq_true rfl, Bool.true_and, List.all_eq_true]
    exact fun i _ => decide_eq_true rfl
  · rw [decide_eq_false e]
    by_cases l : cs.length = ds.length
    · rw [decide_eq_true l, Bool.true_and, List.all_eq_false]
      refine Classical.byContradiction fun h => e (List.ext_getElem? fun i => ?_)
      rcases Nat.lt_or_ge i cs.length with hi | hi
      · refine Classical.byContradiction fun n => h ⟨i, List.mem_range.mpr (by omega), ?_⟩
        rw [decide_eq_false n]
        exact Bool.false_ne_true
      · rw [List.getElem?_eq_none hi, List.getElem?_eq_none (by omega)]
    · rw [decide_eq_false l, Bool.false_and]
theorem col_one {CC : Addr} {H : Hp} {p : Addr} {c d : ColR} (h1 : ColAt CC H p c) (h2 : ColAt CC H p d) : c = d := by
  obtain ⟨dx, e1⟩ := h1
  obtain ⟨dy, e2⟩ := h2
  rw [e1, colF_eq, colF_eq] at e2
  injection e2 with e2
  injection e2 with _ _ e2
  simp only [List.cons.injEq, Prod.mk.injEq, true_and, and_true, V.str.injEq, V.bl.injEq] at e2
  obtain ⟨a, b, c', d'⟩ := e2
  cases c
  cases d
  simp only [ColR.mk.injEq]
  exact ⟨a, b, c', d'⟩
theorem ok_tabE {f fE : Addr} {fd fdE : FuncData} (F : MethD K "__eq__" "Table.__eq__" sTabE f fd) (T : TxtC K mg CC CT) (U : TxtTb K mg CC CT) (EC : Oq.EqC K CC fE) (FE : FnOk P w K mg base CX0 1 fE fdE ["self", "other"] (spColE K CC)) (bE : Binds K fdE ["self", "other"] []) (nf : PySem.W.notFirst K CC (.ref CC) = true) : FnOk P w K mg base CX0 3 f fd ["self", "other"] (spTabE K CC CT) := by
  refine F.ok scTabE (fun vs H Q E h => ?_) (fun cdv A outer s H vs Q E hr h => ?_)
  · obtain ⟨p, y, cs, rfl, _⟩ := h
    rfl
  · obtain ⟨p, y, cs, rfl, ⟨dx, t, n, ps, h1, h2, h3, h4⟩, h⟩ := h
    refine ⟨_, PSs.nox (pss_one (ps_ret (pe_and (pe_callB call_isi (by rfl) T.isi (by decide +kernel) (pa_cons (pv 1) (pa_cons (pe_glob (v := .ref CT) rfl T.gT rfl) pa_nil)))
      (pe_one (pe_cmpR (r := Et.rEqTI K CC (spColE K CC) id) (by exact Et.op_eqTI EC FE bE hr) (pe_fld (pv 0) (by rfl)) (pe_fld (pv 1) (by rfl)) (nomark _)))))), ?_⟩
    rcases h with ⟨q, ds, rfl, ⟨dy, t2, n2, qs, g1, g2, g3, g4⟩, k⟩ | ⟨⟨ty, hty, kty⟩, k⟩
    · refine ⟨_, rfl, _, _, _, _, true, rfl, .own CT, .base (.ins g1 U.cl U.ha T.hn T.ht U.hm), kit_self, true, rfl, iteT ?_⟩
      refine ⟨_, rfl, p, CT, dx, _, _, rfl, h1, U.cl, U.n1, rfl, _, rfl, q, CT, dy, _, _, rfl, g1, U.cl, U.n1, rfl, ?_⟩
      refine ⟨t, t2, ps, qs, fun i => decide (cs[i]? = ds[i]?), rfl, rfl, h2, g2, fun i a b ha hb => ?_, ?_⟩
      · have la : i < cs.length := by rw [← pr_len h4]; exact (List.getElem?_eq_some_iff.mp ha).1
        have lb : i < ds.length := by rw [← pr_len g4]; exact (List.getElem?_eq_some_iff.mp hb).1
        have ec : cs[i]? = some cs[i] := List.getElem?_eq_getElem la
        have ed : ds[i]? = some ds[i] := List.getElem?_eq_getElem lb
        have ca := pr_at h4 ha ec
        have cb := pr_at g4 hb ed
        show Et.Told K CC (spColE K CC) H a b (decide (cs[i]? = ds[i]?))
        rw [ec, ed]
        by_cases e : a = b
        · subst e
          exact .inl ⟨rfl, decide_eq_true (by rw [col_one ca cb])⟩
        · obtain ⟨da, ia⟩ := id ca
          obtain ⟨db, ib⟩ := id cb
          refine .inr ⟨e, da, _, .ref CC, ia, .ins ib, nf, a, .ref b, _, _, _, _, rfl, ca, .inl ⟨b, _, _, _, _, rfl, cb, rfl, ?_⟩⟩
          congr 1
          refine decide_eq_decide.mpr ⟨fun ⟨x1, x2, x3, x4⟩ => ?_, fun x => ?_⟩
          · congr 1
            cases hx : cs[i]
            cases hy : ds[i]
            rw [hx, hy] at x1 x2 x3 x4
            simp only [ColR.mk.injEq]
            exact ⟨x1, x2, x3, x4⟩
          · rw [Option.some.inj x]
            exact ⟨rfl, rfl, rfl, rfl⟩
      · show Q (.bl (decide (ps.length = qs.length) && (List.range (min ps.length qs.length)).all fun i => decide (cs[i]? = ds[i]?))) H
        rw [pr_len h4, pr_len g4, all_eq]
        exact k
    · exact ⟨_, rfl, _, _, _, _, false, rfl, .own CT, hty, kty, false, rfl, iteF k⟩
abbrev nTabC : List Str := ["self", "name", "column"]
theorem scTabC : FnScope nTabC ["self", "name"] (defScope sTabC) := ⟨rfl, rfl, rfl, by decide +kernel, rfl, by decide +kernel, by decide +kernel⟩
theorem ok_tabC {f : Addr} {fd : FuncData} (F : MethD K "column" "Table.column" sTabC f fd) (T : TxtC K mg CC CT) (U : TxtTb K mg CC CT) (B : NcT P w K mg base CN) : FnOk P w K mg base (L2N.CX P w) 5 f fd ["self", "name"] (spTabC CC CT CN) := by
  refine F.ok scTabC (fun vs H Q E h => ?_) (fun cdv A outer s H vs Q E hr h => ?_)
  · obtain ⟨p, v, cs, rfl, _⟩ := h
    rfl
  · obtain ⟨p, v, cs, rfl, ⟨dx, t, n, ps, h1, h2, h3, h4⟩, pw, h⟩ := h
    have nd := scTabC.nd
    refine ⟨_, pss_cons (ps_for (L2.passes_of rfl) rfl (pi_tup (pe_fld (pv 0) (by rfl))) (pg_name (i := 2) nd rfl (Or.inl rfl))
        (pss_one (ps_if (pt_cmpR (r := Et.rEqW) (by exact Et.op_eqW hr.units) (pe_fld (pv 2) (by rfl)) (pv 1) (nomark _)) (pss_one (ps_ret (pv 2))) pss_nil)))
      (pss_one (ps_nocol B rfl hr (L2N.takes_of rfl rfl rfl rfl) (pa_cons (pv 1) pa_nil))), ?_⟩
    refine ⟨_, rfl, p, CT, dx, _, _, rfl, h1, U.cl, U.n1, rfl, t, rfl, ⟨_, SqT.of h2⟩, ?_⟩
    refine for_it (walk_tup (xs := ps.map V.ref)) (fun i σ G => H = G ∧ (∀ j c, j < i → cs[j]? = some c → Et.isT c.n v = false) ∧ ∃ v2 : Option V, σ = [some (.ref p), some v, v2]) ⟨rfl, fun j c hj => absurd hj (Nat.not_lt_zero _), _, rfl⟩ (fun i σ G _ ⟨e, _⟩ => e ▸ SqT.of h2) ?_ ?_
    · rintro i x σ G G' hi ⟨rfl, bef, v2, rfl⟩ ⟨rfl, hx⟩
      rw [List.getElem?_map] at hx
      obtain ⟨q', hq', rfl⟩ := Option.map_eq_some_iff.mp hx
      have il : i < cs.length := by rw [← pr_len h4]; exact (List.getElem?_eq_some_iff.mp hq').1
      have ec : cs[i]? = some cs[i] := List.getElem?_eq_getElem il
      have ca := pr_at h4 hq' ec
      obtain ⟨da, ia⟩ := id ca
      refine ⟨_, rfl, q', CC, da, _, .str cs[i].n, rfl, ia, T.cl, T.n1, colF_name _ _ _ _, _, rfl, cs[i].n, rfl, pw, _, rfl, ?_⟩
      cases e : Et.isT cs[i].n v with
      | true =>
        refine itTb rfl ⟨_, rfl, ?_⟩
        have ev : v = .str cs[i].n := by
          cases v with
          | str z => rw [of_decide_eq_true e]
          | _ => cases e
        rcases h with ⟨j, c, ej, rfl, uq, k⟩ | ⟨no, _⟩
        · have hz : c.n = cs[i].n := V.str.inj ev
          have : ¬ i < j := fun hl => uq i _ hl ec hz.symm
          have hij : ¬ j < i := fun hl => by
            have := bef j c hl ej
            rw [show Et.isT c.n (.str c.n) = true from decide_eq_true rfl] at this
            cases this
          have : i = j := by omega
          subst this
          rw [ec] at ej
          cases ej
          exact k q' ca
        · unfold inN at no
          rw [List.any_eq_false] at no
          exact absurd e (no _ (List.mem_of_getElem? ec))
      | false =>
        refine itFb rfl ⟨rfl, fun j c hj hc => ?_, _, rfl⟩
        rcases Nat.lt_or_eq_of_le (Nat.le_of_lt_succ hj) with hj | rfl
        · exact bef j c hj hc
        · rw [ec] at hc
          cases hc
          exact e
    · rintro σ G ⟨rfl, bef, v2, rfl⟩
      rw [List.length_map, pr_len h4] at bef
      rcases h with ⟨j, c, ej, rfl, uq, k⟩ | ⟨no, d, hs, k⟩
      · have := bef j c (List.getElem?_eq_some_iff.mp ej).1 ej
        rw [show Et.isT c.n (.str c.n) = true from decide_eq_true rfl] at this
        cases this
      · exact ⟨_, rfl, nocol_tail hs fun dd G v' nd s g hv => k dd G v' nd s g hv⟩
end
end Lw

set_option Elab.async false
set_option linter.all false
set_option maxRecDepth 100000
set_option maxHeartbeats 40000000
namespace Lw
open PySem PySem.Spec PyProof.Rows L2
abbrev sTabOf : Stmt := inClass (top 12) 3
section
variable {P : Program} {w : World} {K : PySem.W.Frag} {mg : Str → Option Value} {base : Heap}
end
/-! what a caller says of an error, when something new stood ahead -/
theorem upN {P : Program} {w : World} : StX.CXUp (L2N.CX P w) := by
  intro fs s H s2 H2 E u s' U kept hos c
  obtain ⟨a, B, H', cls, d, h1, h2, h3, V, h5, h6, h7, h8⟩ := c
  have old : ∀ b o, s.heap.get? b = some o → H b = none → H2 b = none := fun b o q n => U.free b o q n (fun z => by cases z)
  have V2 : UB (frs fs) H H' s.heap B s'.heap :=
    { keep := fun b o q n m => V.keep b o (kept b o q) (old b o q n) m
      slot := fun b o q m => V.slot b o (kept b o q) m
      free := fun b o q n => V.free b o (kept b o q) (old b o q n)
      there := fun b o q m => V.there b o (kept b o q) m
      tups := fun b xs q => V.tups b xs (U.tups b xs q)
      frzs := fun b o xs q => V.frzs b o xs (U.frzs b o xs q)
      tbls := fun b ps q => by
        obtain ⟨m1, q1⟩ := U.tbls b ps q
        obtain ⟨m2, q2⟩ := V.tbls b _ q1
        exact ⟨m1 ++ m2, by rw [q2, Array.append_assoc]⟩ }
  exact ⟨a, B, H', cls, d, h1, h2, h3, V2, h5, h6.trans hos, h7, h8⟩
section
variable {P : Program} {w : World} {K : PySem.W.Frag} {mg : Str → Option Value} {base : Heap}
/-! Table.of(*columns) -/
def spOfG (CC CT : Addr) : Sp := fun vs H Q _ => ∃ (ps : List Addr) (cs : List ColR), vs = .ref CT :: ps.map V.ref ∧ Paired (ColAt CC H) ps cs ∧ GoodC cs ∧ CT ≠ CC ∧ ∀ q G, Same H G → H q = none → TabAt CC CT G q cs → Q (.ref q) G
def spOfG2 (CC CT : Addr) : Sp := fun vs H Q _ => ∃ (t : Addr) (ps : List Addr) (cs : List ColR), vs = [.ref CT, .ref t] ∧ H t = some (.tup (ps.map V.ref)) ∧ Paired (ColAt CC H) ps cs ∧ GoodC cs ∧ CT ≠ CC ∧ ∀ q G, Same H G → H q = none → TabAt CC CT G q cs → Q (.ref q) G
theorem scTabOf : FnScope ["cls", "columns"] ((["cls"] : List Str) ++ (["columns"] : List Str)) (defScope sTabOf) := ⟨rfl, rfl, rfl, by decide +kernel, rfl, by decide +kernel, by decide +kernel⟩
theorem keep_ins3 {H G : Hp} {x dx : Addr} {o u : HO} (hx : H x = none) (hd : H dx = none) (k : Keep x (upd (upd H dx o) x u) G) : Same H G := fun b z h => by
  refine k b z (ne_of_none h hx) ?_
  rw [upd_ne (ne_of_none h hx), upd_ne (ne_of_none h hd)]
  exact h
theorem same_ins3 {H : Hp} {x dx : Addr} {o u : HO} (hx : H x = none) (hd : H dx = none) : Same H (upd (upd H dx o) x u) := fun b z h => by
  rw [upd_ne (ne_of_none h hx), upd_ne (ne_of_none h hd)]
  exact h
/-- Table(columns): what its own __init__ is asked -/
theorem tab_new {E : XK} {R : Addr → Hp → Prop} {H : Hp} {b : Addr} {ps : List Addr} {cs : List ColR} (hb : H b = some (.lst (ps.map V.ref))) (hc : Paired (ColAt CC H) ps cs) (gc : GoodC cs) (ne : CT ≠ CC) (k : ∀ q G, Same H G → H q = none → TabAt CC CT G q cs → R q G) :
    ∀ x dx, H x = none → H dx = none → dx ≠ x → spTabG CC CT (.ref x :: ([.ref b] ++ [])) (upd (upd H dx (.own x)) x (.ins CT dx [])) (fun v H2 => v = .non ∧ R x H2) E := by
  intro x dx nx ndx n
  have s := same_ins3 (o := .own x) (u := .ins CT dx []) nx ndx
  exact ⟨x, dx, b, ps, cs, rfl, upd_same, s _ _ hb, pr_map (fun _ _ => ColAt.same s) hc, gc, ne, fun G kG h => ⟨rfl, k x G (keep_ins3 nx ndx kG) nx h⟩⟩
theorem ok_tabOf {fI g : Addr} {fdI fd : FuncData} (F : MethD K "of" "Table.of" sTabOf g fd) (U : TxtTb K mg CC CT) (M : Mk K CT fI) (FI : FnOk P w K mg base CX0 1 fI fdI ["self", "columns"] (spTabG CC CT)) (bI : Binds K fdI ["self", "columns"] []) :
    FnR P w K mg base (L2N.CX P w) 3 g (spOfG CC CT) := by
  obtain ⟨oc, od, dV, kV, doc, pm, an, cdv, ct, osl, rfl, lk, hcd, hD, hK⟩ := F.ex
  have hdV : dV = .none := by
    rcases hD with ⟨_, e⟩ | ⟨e, _⟩
    · exact e
    · exact absurd rfl e
  subst hdV
  have Fs := StX.fn_star (CX := L2N.CX P w) (P := P) (w := w) (mg := mg) (base := base) (k := 2) (N := ["cls", "columns"]) (ps := ["cls"]) (pv := "columns") (sp := spOfG2 CC CT) lk hcd scTabOf upN
    (StX.bind_star1 (B := fun us => bindArgs (PySem.W.fnOf "of" "Table.of" (defArgs sTabOf) (defBody sTabOf) (defScope sTabOf) .none kV doc pm an cdv ct) ⟨us, []⟩) (p1 := "cls") (pv := "columns") (fun a => rfl) (fun a r rs => rfl)) (fun A outer s H vs Q E hr h => ?_)
  · refine Fs.imp fun vs H Q E h => ?_
    obtain ⟨ps, cs, rfl, hc, gc, ne, h⟩ := h
    have hl : (ps.map V.ref).length ≤ 3 := by rw [List.length_map, pr_len hc]; exact gc.hi
    refine ⟨[.ref CT], ps.map V.ref, rfl, rfl, Nat.le_trans hl (by decide), fun p hp => ?_⟩
    have s := Lw.Same.new (o := .tup (ps.map V.ref)) (Same.refl H) hp
    exact ⟨p, ps, cs, rfl, upd_same, pr_map (fun _ _ => ColAt.same s) hc, gc, ne, fun q G k n h2 => h q G (s.trans k) (none_of_same s n) h2⟩
  · obtain ⟨t, ps, cs, rfl, ht, hc, gc, ne, h⟩ := h
    refine ⟨_, pss_one (ps_ret (pe_makeL (i := 0) M FI hr rfl (Or.inl rfl) bI pass0 (pa_cons (pe_callTy call_list_of (by rfl) U.list (by decide +kernel) (pa_cons (pv 1) pa_nil)) pa_nil))), ?_⟩
    refine ⟨rfl, _, rfl, t, _, rfl, .inr (SqT.of ht), fun l hn => ?_⟩
    have s := Lw.Same.new (o := .lst (ps.map V.ref)) (Same.refl H) hn
    exact tab_new upd_same (pr_map (fun _ _ => ColAt.same s) hc) gc ne fun q G k n h2 => h q G (s.trans k) (none_of_same s n) h2
end
end Lw

set_option Elab.async false
set_option linter.all false
set_option maxRecDepth 100000
set_option maxHeartbeats 40000000
namespace Lw
open PySem PySem.Spec PyProof.Rows L2
abbrev sColsL : Stmt := top 19
section
variable {P : Program} {w : World} {K : PySem.W.Frag} {mg : Str → Option Value} {base : Heap}
/-! columns as the law's own tuples -/
def TupAt (H : Hp) (t : Addr) (c : ColR) : Prop := H t = some (.tup [.str c.n, .bl c.l, .bl c.f, .bl c.e])
def TupsAt (H : Hp) (l : Addr) (cs : List ColR) : Prop := ∃ ts : List Addr, H l = some (.lst (ts.map V.ref)) ∧ Paired (TupAt H) ts cs
theorem TupsAt.same {H G : Hp} {l : Addr} {cs : List ColR} (s : Same H G) (h : TupsAt H l cs) : TupsAt G l cs := by
  obtain ⟨ts, h1, h2⟩ := h
  exact ⟨ts, s _ _ h1, pr_map (fun _ _ e => s _ _ e) h2⟩
theorem src_tup {H : Hp} {a t : Addr} {n : Nat} {c : ColR} (S : Src H a n) (h : TupAt H t c) : t ≠ a := fun e => by
  obtain ⟨_, _, _, z, _⟩ := S
  unfold TupAt at h
  rw [e, z] at h
  cases h
theorem TupsAt.keep {H G : Hp} {a l : Addr} {n : Nat} {cs : List ColR} (S : Src H a n) (la : l ≠ a) (k : Keep a H G) (h : TupsAt H l cs) : TupsAt G l cs := by
  obtain ⟨ts, h1, h2⟩ := h
  exact ⟨ts, k _ _ la h1, pr_map (fun _ _ e => k _ _ (src_tup S e) e) h2⟩
theorem GoodC.snoc {cs : List ColR} {c : ColR} (h : cs = [] ∨ GoodC cs) (l : cs.length < 3) (hw : IsWord c.n) (hk : c.n ≠ "key") (no : c.n ∉ cs.map ColR.n) : GoodC (cs ++ [c]) := by
  have nd0 : (cs.map ColR.n).Nodup := by
    rcases h with rfl | h
    · exact List.nodup_nil
    · exact h.nd
  have w0 : ∀ c ∈ cs, IsWord c.n ∧ c.n ≠ "key" := by
    rcases h with rfl | h
    · exact fun _ h => (List.not_mem_nil h).elim
    · exact h.w
  refine ⟨?_, by rw [List.length_append]; exact Nat.le_add_left 1 _, by rw [List.length_append]; exact l, fun d hd => ?_⟩
  · rw [List.map_append, List.nodup_append]
    refine ⟨nd0, by simp, fun x hx y hy e => ?_⟩
    rw [List.map_cons, List.map_nil, List.mem_singleton] at hy
    subst e
    rw [hy] at hx
    exact no hx
  · rcases List.mem_append.mp hd with hd | hd
    · exact w0 d hd
    · rw [List.mem_singleton.mp hd]
      exact ⟨hw, hk⟩
theorem nms_take {cs : List ColR} {i : Nat} {c : ColR} (h : cs[i]? = some c) : (nmsV cs).take (i + 1) = (nmsV cs).take i ++ [.str c.n] := by
  have e : (nmsV cs)[i]? = some (.str c.n) := by
    unfold nmsV
    rw [List.getElem?_map, List.getElem?_map, h]
    rfl
  rw [List.take_succ, e]
  rfl
theorem nms_len (cs : List ColR) : (nmsV cs).length = cs.length := by unfold nmsV; rw [List.length_map, List.length_map]
/-- the data that the tuples are -/
def cD (c : ColR) : PyData := .tuple [.str c.n, .bool c.l, .bool c.f, .bool c.e]
theorem dp_tups {K : PySem.W.Frag} {H : Hp} : ∀ {ts : List Addr} {cs : List ColR}, Paired (TupAt H) ts cs → DpAll K H (ts.map V.ref) (cs.map cD)
  | _, _, .nil => .nil
  | _, _, .cons h r => .cons (.tup (SqT.of h) (.cons (.str _) (.cons (.bl _) (.cons (.bl _) (.cons (.bl _) .nil))))) (dp_tups r)
theorem lay_str {z : Str} (h : IsWord z) : PyData.canLay0 (.str z) = true := by
  have := canLay_strs [z] (fun y hy => by rw [List.mem_singleton.mp hy]; exact h)
  have e : (PyData.canLay0 (.str z) && true) = true := this
  simpa using e
theorem cD_ok {c : ColR} (h : IsWord c.n) : PyData.canLay0 (cD c) = true ∧ PyData.depth (cD c) = 1 := by
  refine ⟨?_, rfl⟩
  show (PyData.canLay0 (.str c.n) && (PyData.canLay0 (.bool c.l) && (PyData.canLay0 (.bool c.f) && (PyData.canLay0 (.bool c.e) && true)))) = true
  rw [lay_str h]
  rfl
theorem cDs_ok : ∀ {cs : List ColR}, (∀ c ∈ cs, IsWord c.n) → PyData.canLayAll0 (cs.map cD) = true ∧ PyData.depthAll (cs.map cD) ≤ 1
  | [], _ => ⟨rfl, Nat.zero_le _⟩
  | c :: cs, h => by
    obtain ⟨a1, a2⟩ := cDs_ok (cs := cs) fun d hd => h d (List.mem_cons_of_mem _ hd)
    obtain ⟨b1, b2⟩ := cD_ok (h c List.mem_cons_self)
    refine ⟨?_, ?_⟩
    · show (PyData.canLay0 (cD c) && PyData.canLayAll0 (cs.map cD)) = true
      rw [a1, b1]
      rfl
    · show max (PyData.depth (cD c)) (PyData.depthAll (cs.map cD)) ≤ 1
      omega
theorem cDs_shaped {cs : List ColR} (h : ∀ c ∈ cs, IsWord c.n) : SeqAt.shaped (.list (cs.map cD)) = true := by
  obtain ⟨h1, h2⟩ := cDs_ok h
  have e1 : PyData.canLay0 (.list (cs.map cD)) = true := h1
  have e2 : PyData.depth (.list (cs.map cD)) ≤ 2 := by
    show PyData.depthAll (cs.map cD) + 1 ≤ 2
    omega
  unfold SeqAt.shaped
  rw [e1, Bool.true_and]
  exact decide_eq_true (by omega)
theorem cD_eqv (c d : ColR) : PyData.eqv (cD c) (cD d) = decide (c = d) := by
  cases c with
  | mk n l f e => cases d with
    | mk n2 l2 f2 e2 =>
      simp only [cD, PyData.eqv, PyData.eqvAll, ColR.mk.injEq]
      by_cases h : n = n2
      · subst h
        cases l <;> cases l2 <;> cases f <;> cases f2 <;> cases e <;> cases e2 <;> simp
      · simp [h]
theorem cDs_eqv : ∀ (cs ds : List ColR), PyData.eqvAll (cs.map cD) (ds.map cD) = decide (cs = ds)
  | [], [] => rfl
  | [], d :: ds => rfl
  | c :: cs, [] => rfl
  | c :: cs, d :: ds => by
    show (PyData.eqv (cD c) (cD d) && PyData.eqvAll (cs.map cD) (ds.map cD)) = _
    rw [cD_eqv, cDs_eqv cs ds]
    by_cases h1 : c = d
    · by_cases h2 : cs = ds
      · rw [decide_eq_true h1, decide_eq_true h2, decide_eq_true (by rw [h1, h2])]
        rfl
      · rw [decide_eq_false h2, Bool.and_false, decide_eq_false fun e => h2 (List.cons.inj e).2]
    · rw [decide_eq_false h1, Bool.false_and, decide_eq_false fun e => h1 (List.cons.inj e).1]
/-- l != m, both lists of such tuples -/
theorem ne_tups {K : PySem.W.Frag} {G : Hp} {l m : Addr} {cs ds : List ColR} {Q : VK} (wc : ∀ c ∈ cs, IsWord c.n) (wd : ∀ c ∈ ds, IsWord c.n) (h1 : TupsAt G l cs) (h2 : TupsAt G m ds) (q : Q (.bl (!decide (cs = ds))) G) : rNeD K (.ref l) (.ref m) G Q := by
  obtain ⟨ts, a1, a2⟩ := h1
  obtain ⟨us, b1, b2⟩ := h2
  refine ⟨.list (cs.map cD), .list (ds.map cD), .lst (SqL.of a1) (dp_tups a2), .lst (SqL.of b1) (dp_tups b2), cDs_shaped wc, cDs_shaped wd, ?_⟩
  show Q (.bl (!PyData.eqvAll (cs.map cD) (ds.map cD))) G
  rw [cDs_eqv]
  exact q
theorem eq_tups {K : PySem.W.Frag} {G : Hp} {l m : Addr} {cs ds : List ColR} {Q : VK} (wc : ∀ c ∈ cs, IsWord c.n) (wd : ∀ c ∈ ds, IsWord c.n) (h1 : TupsAt G l cs) (h2 : TupsAt G m ds) (q : Q (.bl (decide (cs = ds))) G) : rEqD K (.ref l) (.ref m) G Q := by
  obtain ⟨ts, a1, a2⟩ := h1
  obtain ⟨us, b1, b2⟩ := h2
  refine ⟨.list (cs.map cD), .list (ds.map cD), .lst (SqL.of a1) (dp_tups a2), .lst (SqL.of b1) (dp_tups b2), cDs_shaped wc, cDs_shaped wd, ?_⟩
  show Q (.bl (PyData.eqvAll (cs.map cD) (ds.map cD))) G
  rw [cDs_eqv]
  exact q
/-! _law_columns -/
def spCols : Sp := fun vs H Q _ => ∃ (a : Addr) (n : Nat) (m : Int), vs = [.ref a, .int m] ∧ Src H a n ∧ n ≤ 800000000 ∧ 1 ≤ m ∧ m ≤ 3 ∧ ∀ l G cs, Keep a H G → Src G a (n + 40) → l ≠ a → H l = none → TupsAt G l cs → (cs.length : Int) = m → GoodC cs → Q (.ref l) G
abbrev nCols : List Str := ["source", "many", "found", "turn", "name", "flags", "one"]
theorem scCols : FnScope nCols ["source", "many"] (defScope sColsL) := ⟨rfl, rfl, rfl, by decide +kernel, rfl, by decide +kernel, by decide +kernel⟩
theorem ok_cols {f : Addr} {fd : FuncData} (F : FnP K "_law_columns" sColsL f fd) (hR : mg "range" = none) (cD0 : Cal P w K mg base CX0 "_law_draw" 1 ["source", "many"] spDraw) (cW : Cal P w K mg base CX0 "_law_word" 2 ["source", "taken"] (spWord K)) : FnOk P w K mg base CX0 3 f fd ["source", "many"] spCols := by
  refine F.ok scCols (fun vs H Q E h => ?_) (fun cdv A outer s H vs Q E hr h => ?_)
  · obtain ⟨a, n, m, rfl, _⟩ := h
    rfl
  · obtain ⟨a, n, m, rfl, hs, hn, m1, m3, k⟩ := h
    have nd := scCols.nd
    have h1 : Room 1 _ := hr.mono (by decide)
    refine ⟨_, PSs.nox (pss_cons (ps_set (i := 2) nd rfl (Or.inl rfl) (pe_lst pa_nil))
      (pss_cons (ps_for PassesOwn.never rfl (pi_range1 rfl hR (pa_cons (pv 1) pa_nil)) (pg_name (i := 3) nd rfl (Or.inl rfl))
        (pss_cons (ps_set (i := 4) nd rfl (Or.inl rfl) (pe_cal cW hr (pa_cons (pv 0) (pa_cons (pe_op op_cat (pe_lst (pa_cons pe_str (pa_cons pe_str pa_nil))) (pe_lc (own := [("one", 6)]) (g := gName 6) (tt := tYes) rfl nd (pi_list (pv 2)) (blkOk_by (N := nCols) (sc := defScope sColsL) (by decide +kernel)) (fun _ _ _ _ _ => pg_name (i := 6) nd rfl (Or.inl rfl)) (fun _ _ _ _ _ => pts_nil) (fun _ _ _ _ _ => pe_ix (r := rIxT K) (by exact ix_tup) (pv 6) pe_int (fun _ _ => rfl)))) pa_nil))))
        (pss_cons (ps_set (i := 5) nd rfl (Or.inl rfl) (pe_cal cD0 h1 (pa_cons (pv 0) (pa_cons pe_int pa_nil))))
        (pss_one (ps_expr (pe_bm PySem.F.plainAttrs_list PySem.F.slot_list_append PySem.F.type_list_append mt_append (pv 2) (pa_cons (pe_tup (pa_cons (pv 4) (pa_cons (pe_cmpR op_eq (pe_op op_modN (pv 5) pe_int) pe_int (nomark _)) (pa_cons (pe_cmpR op_eq (pe_op op_modN (pe_op op_fdivN (pv 5) pe_int) pe_int) pe_int (nomark _)) (pa_cons (pe_cmpR op_eq (pe_op op_fdivN (pv 5) pe_int) pe_int (nomark _)) pa_nil))))) pa_nil)))))))
      (pss_one (ps_ret (pv 2))))), ?_⟩
    have h9 : sizeLine = 16777216 := by decide
    refine sq_set (fun x G => ∃ L, x = .ref L ∧ H L = none ∧ L ≠ a ∧ Keep a H G ∧ Src G a n ∧ G L = some (.lst [])) (fun Q q => ⟨(by show 0 ≤ sizeLine; decide), fun L nL => q _ _ ⟨L, rfl, nL, hs.ne nL, (Keep.refl H).new nL, hs.new nL, upd_same⟩⟩) ?_
    rintro _ G0 ⟨L, rfl, nL, La, k0, S0, gL0⟩
    refine ⟨_, rfl, _, rfl, by omega, by omega, ?_⟩
    refine for_range (lo := 0) (fun i σ G => ∃ (v3 v4 v5 : Option V) (cs : List ColR), σ = [some (.ref a), some (.int m), some (.ref L), v3, v4, v5, none] ∧ TupsAt G L cs ∧ cs.length = i ∧ (cs = [] ∨ GoodC cs) ∧ Keep a H G ∧ Src G a (n + 12 * i))
      ⟨_, _, _, [], rfl, ⟨[], gL0, .nil⟩, rfl, .inl rfl, k0, S0⟩ ?_ ?_
    · rintro i σ G hi ⟨v3, v4, v5, cs, rfl, ⟨ts, gL, pt⟩, lc, gc, kG, SG⟩
      have i3 : i < 3 := by omega
      have lt := pr_len pt
      refine g_name ?_
      refine sq_set (fun x G2 => ∃ z, x = .str z ∧ IsWord z ∧ z ≠ "key" ∧ z ∉ cs.map ColR.n ∧ Keep a G G2 ∧ Src G2 a (n + 12 * i + 10)) (fun Q q => ?_) ?_
      · refine ⟨_, rfl, (by show 2 ≤ sizeLine; decide), fun l1 n1 => ?_⟩
        have s1 := Lw.Same.new (o := .lst [.str "key", .str "table"]) (Same.refl G) n1
        refine ⟨_, rfl, L, rfl, ⟨_, SqL.of (s1 _ _ gL)⟩, fun D nD => ?_⟩
        have s2 := Lw.Same.new (o := .lst []) (Same.refl _) nD
        have sD := s1.trans s2
        refine lc_list (xs := ts.map V.ref) (fun j G2 => G2 D = some (.lst ((nmsV cs).take j)) ∧ Same (upd G l1 (.lst [.str "key", .str "table"])) G2) ⟨upd_same, s2⟩ (fun j G2 _ h => SqL.of (h.2 _ _ (s1 _ _ gL))) ?_ ?_
        · rintro j x G2 hx ⟨gD, sG⟩
          rw [List.getElem?_map] at hx
          obtain ⟨t, ht, rfl⟩ := Option.map_eq_some_iff.mp hx
          have jl : j < cs.length := by rw [← lt]; exact (List.getElem?_eq_some_iff.mp ht).1
          have ec : cs[j]? = some cs[j] := List.getElem?_eq_getElem jl
          have tt := pr_at pt ht ec
          refine ⟨rfl, _, rfl, t, _, 0, .str cs[j].n, rfl, rfl, SqT.of (sG _ _ (s1 _ _ tt)), rfl, _, gD, ?_, ?_, same_at nD sG⟩
          · rw [List.length_take]
            omega
          · rw [upd_same, nms_take ec]
        · rintro G2 ⟨gD, sG⟩
          rw [List.length_map, lt, ← nms_len cs, List.take_length] at gD
          have g1 := sG _ _ (show (upd G l1 (.lst [.str "key", .str "table"])) l1 = some (.lst [.str "key", .str "table"]) from upd_same)
          refine ⟨l1, D, _, _, rfl, rfl, g1, gD, by rw [nms_len]; show 2 + cs.length ≤ sizeLine; omega, fun N nN => ?_⟩
          have sA := s1.trans sG
          have S2 := SG.same sA
          have gN : (upd G2 N (.lst ([.str "key", .str "table"] ++ nmsV cs))) N = some (.lst (((["key", "table"] : List Str) ++ cs.map ColR.n).map V.str)) := by
            rw [upd_same, List.map_append]
            rfl
          refine ⟨a, N, _, (["key", "table"] : List Str) ++ cs.map ColR.n, rfl, S2.new nN, by omega, S2.ne nN, SqL.of gN, by rw [List.length_append, List.length_map]; show 2 + cs.length ≤ 25; omega, fun G3 z k3 s3 hz hno => ?_⟩
          exact q _ _ ⟨z, rfl, hz, fun e => hno (by rw [e]; exact List.mem_append_left _ List.mem_cons_self), fun h => hno (List.mem_append_right _ h), (Keep.of_same sA).trans (((Keep.refl _).new nN).trans k3), s3⟩
      rintro _ G2 ⟨z, rfl, hz, zk, zn, k2, S2⟩
      refine sq_set (fun x G3 => ∃ fl : Int, x = .int fl ∧ 0 ≤ fl ∧ fl < 8 ∧ Keep a G2 G3 ∧ Src G3 a (n + 12 * i + 11)) (fun Q q => ⟨_, rfl, a, _, _, rfl, S2, by omega, by decide, by decide, fun G3 fl k3 s3 f0 f1 => q _ _ ⟨fl, rfl, f0, f1, k3, s3⟩⟩) ?_
      rintro _ G3 ⟨fl, rfl, f0, f1, k3, S3⟩
      have kA := k2.trans k3
      have gL3 := kA _ _ La gL
      have m2 : (2 : Int) ≠ 0 ∧ (2 : Int).natAbs < 1073741824 := ⟨by decide, by decide⟩
      have m4 : (4 : Int) ≠ 0 ∧ (4 : Int).natAbs < 1073741824 := ⟨by decide, by decide⟩
      refine ⟨_, rfl, .inl ⟨rfl, _, SqL.of gL3⟩, _, rfl, _, rfl, _, _, rfl, rfl, m2.1, rfl, _, rfl, _, _, rfl, rfl, m2, _, _, rfl, rfl, m2.1, rfl, _, rfl, _, _, rfl, rfl, m4, rfl, (by show 4 ≤ sizeLine; decide), fun t nt => ?_⟩
      have st := Lw.Same.new (o := .tup [.str z, .bl (decide (V.int (fl.fmod 2) = .int 1)), .bl (decide (V.int ((fl.fdiv 2).fmod 2) = .int 1)), .bl (decide (V.int (fl.fdiv 4) = .int 1))]) (Same.refl G3) nt
      have tL : t ≠ L := (ne_of_none gL3 nt).symm
      refine ⟨L, _, _, rfl, rfl, st _ _ gL3, by rw [List.length_map, lt]; omega, ?_⟩
      generalize gG4 : upd G3 t (.tup [.str z, .bl (decide (V.int (fl.fmod 2) = .int 1)), .bl (decide (V.int ((fl.fdiv 2).fmod 2) = .int 1)), .bl (decide (V.int (fl.fdiv 4) = .int 1))]) = G4 at st ⊢
      have gt : TupAt G4 t ⟨z, decide (V.int (fl.fmod 2) = .int 1), decide (V.int ((fl.fdiv 2).fmod 2) = .int 1), decide (V.int (fl.fdiv 4) = .int 1)⟩ := by
        rw [← gG4]
        exact upd_same
      have mv : ∀ u c, TupAt G4 u c → TupAt (upd G4 L (.lst (ts.map V.ref ++ [.ref t]))) u c := fun u c h => by
        have uL : u ≠ L := fun e => by
          unfold TupAt at h
          rw [e, st _ _ gL3] at h
          cases h
        unfold TupAt
        rw [upd_ne uL]
        exact h
      have S4 := S3.same st
      refine ⟨_, _, _, cs ++ [⟨z, decide (V.int (fl.fmod 2) = .int 1), decide (V.int ((fl.fdiv 2).fmod 2) = .int 1), decide (V.int (fl.fdiv 4) = .int 1)⟩], rfl, ⟨ts ++ [t], by rw [upd_same, List.map_append]; rfl, pr_snoc (pr_map (fun u c h => mv u c (st _ _ (kA _ _ (src_tup SG h) h))) pt) (mv _ _ gt)⟩, by rw [List.length_append, lc]; rfl, .inr (GoodC.snoc gc (by omega) hz zk zn), fun b o nb e => ?_, ?_⟩
      · by_cases bL : b = L
        · rw [bL, nL] at e
          cases e
        · rw [upd_ne bL]
          exact st _ _ (kA _ _ nb (kG _ _ nb e))
      · obtain ⟨x1, x2, x3, y1, y2⟩ := S4.mono (show n + 12 * i + 11 ≤ n + 12 * (i + 1) by omega)
        exact ⟨x1, x2, x3, by rw [upd_ne La.symm]; exact y1, y2⟩
    · rintro σ G ⟨v3, v4, v5, cs, rfl, ht, lc, gc, kG, SG⟩
      have lc1 : (cs.length : Int) = m := by omega
      refine ⟨_, rfl, k L G cs kG (SG.mono (by omega)) La nL ht lc1 ?_⟩
      rcases gc with rfl | gc
      · rw [List.length_nil] at lc1
        omega
      · exact gc
end
end Lw

set_option Elab.async false
set_option linter.all false
set_option maxRecDepth 100000
set_option maxHeartbeats 40000000
namespace Lw
open PySem PySem.Spec PyProof.Rows L2
abbrev sTabM : Stmt := top 20
abbrev sFlags : Stmt := top 21
section
variable {P : Program} {w : World} {K : PySem.W.Frag} {mg : Str → Option Value} {base : Heap}
/-! _law_table, _law_flags -/
theorem col_b3 {f : Addr} {fd : FuncData} (F : ColD K f fd) : ∃ mv : List Value, KBn K fd nCol 2 ["large", "fixed", "empty"] (fun us ws => us ++ (ws ++ mv)) (fun vs zs => vs ++ (zs ++ [])) :=
  F.kbinds0 2 ["large", "fixed", "empty"] [] (fun us mv ws => us ++ (ws ++ mv)) (fun z => by cases z) (fun q h => by cases h) (fun a b c => a.append (c.append b)) fun D doc pm an cdv ct us mv ws h1 h2 h3 => match us, h1, mv, h2, ws, h3 with
    | [_, _], _, [], _, [_, _, _], _ => rfl
structure ColM (P : Program) (w : World) (K : PySem.W.Frag) (mg : Str → Option Value) (base : Heap) (CC fI : Addr) (fd : FuncData) : Prop where
  gC : mg "Column" = some (.ref CC)
  M : Mk K CC fI
  F : FnOk P w K mg base CX0 2 fI fd nCol (spColG CC)
  D : ColD K fI fd
theorem col_new {E : XK} {R : Addr → Hp → Prop} {H : Hp} {c : ColR} (hz : IsWord c.n) (hne : c.n ≠ "key") (h : ∀ x G, Same H G → H x = none → ColAt CC G x c → R x G) :
    ∀ x dx, H x = none → H dx = none → dx ≠ x → spColG CC [.ref x, .str c.n, .bl c.l, .bl c.f, .bl c.e] (upd (upd H dx (.own x)) x (.ins CC dx [])) (fun v H2 => v = .non ∧ R x H2) E := fun x dx hx hd n =>
  ⟨x, dx, c.n, c.l, c.f, c.e, rfl, hz, hne, upd_same, fun G k hG => ⟨rfl, h x G (keep_ins3 hx hd k) hx hG⟩⟩
/-- the new columns of [Column(..) for name, large, fixed, empty in ..], as they come -/
def NewCols (CC : Addr) (H0 G : Hp) (D : Addr) (cs : List ColR) : Prop := ∃ ps : List Addr, G D = some (.lst (ps.map V.ref)) ∧ Paired (ColAt CC G) ps cs ∧ Same H0 G
def spTabM (CC CT : Addr) : Sp := fun vs H Q _ => ∃ (l : Addr) (cs : List ColR), vs = [.ref l] ∧ TupsAt H l cs ∧ GoodC cs ∧ ∀ q G, Same H G → H q = none → TabAt CC CT G q cs → Q (.ref q) G
abbrev nTabM : List Str := ["columns", "name", "large", "fixed", "empty"]
theorem scTabM : FnScope nTabM ["columns"] (defScope sTabM) := ⟨rfl, rfl, rfl, by decide +kernel, rfl, by decide +kernel, by decide +kernel⟩
theorem new_step {H0 G : Hp} {D x : Addr} {cs : List ColR} {c : ColR} {G2 : Hp} (h : NewCols CC H0 G D cs) (nD : H0 D = none) (s : Same G G2) (hx : ColAt CC G2 x c) (few : cs.length ≤ 3) : ∃ acc, G2 D = some (.lst acc) ∧ acc.length < sizeLine ∧ NewCols CC H0 (upd G2 D (.lst (acc ++ [.ref x]))) D (cs ++ [c]) := by
  obtain ⟨ps, h1, h2, h3⟩ := h
  have h9 : sizeLine = 16777216 := by decide
  have mv : ∀ q d, ColAt CC G2 q d → ColAt CC (upd G2 D (.lst (ps.map V.ref ++ [.ref x]))) q d := fun q d ⟨dx, e⟩ => ⟨dx, by
    rw [upd_ne (fun z => by rw [z, s _ _ h1] at e; cases e)]
    exact e⟩
  refine ⟨_, s _ _ h1, by rw [List.length_map, pr_len h2]; omega, ps ++ [x], by rw [upd_same, List.map_append]; rfl, pr_snoc (pr_map (fun q d e => mv q d (e.same s)) h2) (mv _ _ hx), same_at nD (h3.trans s)⟩
theorem ok_tabM {f fI fT : Addr} {fd fdI fdT : FuncData} (F : FnP K "_law_table" sTabM f fd) (ne : CT ≠ CC) (gT : mg "Table" = some (.ref CT)) (M : ColM P w K mg base CC fI fdI) (MT : Mk K CT fT) (FT : FnOk P w K mg base CX0 1 fT fdT ["self", "columns"] (spTabG CC CT)) (bT : Binds K fdT ["self", "columns"] []) : FnOk P w K mg base CX0 4 f fd ["columns"] (spTabM CC CT) := by
  obtain ⟨m3, b3⟩ := col_b3 M.D
  refine F.ok scTabM (fun vs H Q E h => ?_) (fun cdv A outer s H vs Q E hr h => ?_)
  · obtain ⟨l, cs, rfl, _⟩ := h
    rfl
  · obtain ⟨l, cs, rfl, ⟨ts, hl, pt⟩, gc, k⟩ := h
    have nd := scTabM.nd
    have h2 : Room 2 _ := hr.mono (by decide)
    refine ⟨_, PSs.nox (pss_one (ps_ret (pe_make MT FT h2 rfl gT bT .nil pass0 (pa_cons (pe_lc (own := [("name", 1), ("large", 2), ("fixed", 3), ("empty", 4)]) (g := gTup K 4 (gCons (gName 1) (gCons (gName 2) (gCons (gName 3) (gCons (gName 4) gNil))))) (tt := tYes) rfl nd (pi_list (pv 0)) (blkOk_by (N := nTabM) (sc := defScope sTabM) (by decide +kernel))
      (fun _ _ _ _ _ => pg_tup (by rfl) (pgs_cons (pg_name (i := 1) nd rfl (Or.inl rfl)) (pgs_cons (pg_name (i := 2) nd rfl (Or.inl rfl)) (pgs_cons (pg_name (i := 3) nd rfl (Or.inl rfl)) (pgs_cons (pg_name (i := 4) nd rfl (Or.inl rfl)) pgs_nil))))) (fun _ _ _ _ _ => pts_nil)
      (fun _ _ _ _ _ => pe_makeK M.M M.F hr (by rfl) M.gC b3 pass0 (pa_cons (pv 1) pa_nil) (pk_cons (pv 2) (pk_cons (pv 3) (pk_cons (pv 4) pk_nil))))) pa_nil)))), ?_⟩
    refine ⟨_, rfl, l, rfl, ⟨_, SqL.of hl⟩, fun D nD => ?_⟩
    refine lc_list (xs := ts.map V.ref) (fun j G => NewCols CC H G D (cs.take j)) ⟨[], upd_same, .nil, Lw.Same.new (Same.refl H) nD⟩ (fun j G _ ⟨_, _, _, s⟩ => SqL.of (s _ _ hl)) ?_ ?_
    · rintro j x G hx hN
      rw [List.getElem?_map] at hx
      obtain ⟨t, ht, rfl⟩ := Option.map_eq_some_iff.mp hx
      have jl : j < cs.length := by rw [← pr_len pt]; exact (List.getElem?_eq_some_iff.mp ht).1
      have ec : cs[j]? = some cs[j] := List.getElem?_eq_getElem jl
      have tt := pr_at pt ht ec
      have sG := hN.choose_spec.2.2
      have wc := gc.w _ (List.mem_of_getElem? ec)
      refine ⟨t, _, rfl, SqT.of (sG _ _ tt), rfl, _, _, rfl, _, _, rfl, _, _, rfl, _, _, rfl, rfl, rfl, _, rfl, _, rfl, _, rfl, _, rfl, rfl, rfl, ?_⟩
      refine col_new (c := cs[j]) wc.1 wc.2 fun x G2 s2 nx hc => ?_
      obtain ⟨acc, a1, a2, a3⟩ := new_step hN nD s2 hc (by rw [List.length_take]; have := gc.hi; omega)
      refine ⟨acc, a1, a2, ?_⟩
      rw [show cs.take (j + 1) = cs.take j ++ [cs[j]] from by rw [List.take_succ, ec]; rfl]
      exact a3
    · rintro G hN
      rw [List.length_map, pr_len pt, List.take_length] at hN
      obtain ⟨ps, h1, h3, sG⟩ := hN
      exact tab_new h1 h3 gc ne fun q G2 s2 n2 tb => k q G2 (sG.trans s2) (none_of_same sG n2) tb
def spFlags (CC : Addr) : Sp := fun vs H Q _ => ∃ (q : Addr) (c : ColR), vs = [.ref q] ∧ ColAt CC H q c ∧ ∀ t G, Same H G → H t = none → TupAt G t c → Q (.ref t) G
theorem scFlags : FnScope ["column"] ["column"] (defScope sFlags) := ⟨rfl, rfl, rfl, by decide +kernel, rfl, by decide +kernel, by decide +kernel⟩
theorem ok_flags {f : Addr} {fd : FuncData} (F : FnP K "_law_flags" sFlags f fd) (T : TxtC K mg CC CT) : FnOk P w K mg base CX0 1 f fd ["column"] (spFlags CC) := by
  refine F.ok scFlags (fun vs H Q E h => ?_) (fun cdv A outer s H vs Q E hr h => ?_)
  · obtain ⟨q, c, rfl, _⟩ := h
    rfl
  · obtain ⟨q, c, rfl, ⟨dx, hx⟩, k⟩ := h
    refine ⟨_, PSs.nox (pss_one (ps_ret (pe_tup (pa_cons (pe_fld (pv 0) (by rfl)) (pa_cons (pe_fld (pv 0) (by rfl)) (pa_cons (pe_fld (pv 0) (by rfl)) (pa_cons (pe_fld (pv 0) (by rfl)) pa_nil))))))), ?_⟩
    refine ⟨_, rfl, q, CC, dx, _, .str c.n, rfl, hx, T.cl, T.n1, colF_name _ _ _ _, _, rfl, q, CC, dx, _, .bl c.l, rfl, hx, T.cl, T.n2, colF_large _ _ _ _, _, rfl, q, CC, dx, _, .bl c.f, rfl, hx, T.cl, T.n3, colF_fixed _ _ _ _, _, rfl, q, CC, dx, _, .bl c.e, rfl, hx, T.cl, T.n4, colF_empty _ _ _ _, (by show 4 ≤ sizeLine; decide), fun t nt => ?_⟩
    exact k t _ (Lw.Same.new (Same.refl H) nt) nt upd_same
end
end Lw

set_option Elab.async false
set_option linter.all false
set_option maxRecDepth 100000
set_option maxHeartbeats 40000000
namespace Lw
open PySem PySem.Spec PyProof.Rows L2
abbrev sTells : Stmt := top 23
section
variable {P : Program} {w : World} {K : PySem.W.Frag} {mg : Str → Option Value} {base : Heap}
/-! whether a table tells these columns -/
theorem pass_no {X : Cx} : Passes (L2N.CX X.prog X.w) X (fun _ _ _ => False) := fun _ _ _ _ _ _ _ c => by
  obtain ⟨_, _, _, _, _, _, _, _, _, _, _, _, z⟩ := c
  exact z.elim
theorem dp_strs {H : Hp} : ∀ ks : List Str, DpAll K H (ks.map V.str) (ks.map PyData.str)
  | [] => .nil
  | z :: r => .cons (.str z) (dp_strs r)
theorem dp_bls {H : Hp} : ∀ ks : List Bool, DpAll K H (ks.map V.bl) (ks.map PyData.bool)
  | [] => .nil
  | z :: r => .cons (.bl z) (dp_bls r)
theorem bls_ok : ∀ ks : List Bool, PyData.canLayAll0 (ks.map PyData.bool) = true ∧ PyData.depthAll (ks.map PyData.bool) = 0
  | [] => ⟨rfl, rfl⟩
  | b :: r => by
    obtain ⟨a1, a2⟩ := bls_ok r
    refine ⟨?_, ?_⟩
    · show (PyData.canLay0 (.bool b) && PyData.canLayAll0 (r.map PyData.bool)) = true
      rw [a1]
      rfl
    · show max (PyData.depth (.bool b)) (PyData.depthAll (r.map PyData.bool)) = 0
      rw [a2]
      rfl
theorem bls_shaped (ks : List Bool) : SeqAt.shaped (.list (ks.map PyData.bool)) = true := by
  obtain ⟨h1, h2⟩ := bls_ok ks
  have e1 : PyData.canLay0 (.list (ks.map PyData.bool)) = true := h1
  have e2 : PyData.depth (.list (ks.map PyData.bool)) = 1 := by
    show PyData.depthAll (ks.map PyData.bool) + 1 = 1
    rw [h2]
  unfold SeqAt.shaped
  rw [e1, e2]
  rfl
structure TabF (P : Program) (w : World) (K : PySem.W.Frag) (mg : Str → Option Value) (base : Heap) (CC CT CN : Addr) : Prop where
  cl : Cls K CT
  C : TxtC K mg CC CT
  T : TxtTb K mg CC CT
  len : ∃ f fd, Cl.LenC K CT f ∧ FnOk P w K mg base CX0 1 f fd ["self"] (spTabLen CC CT) ∧ Binds K fd ["self"] []
  con : ∃ g fd, Oc.InC K CT g ∧ FnOk P w K mg base CX0 1 g fd ["self", "x"] (spTabIn CC CT) ∧ Binds K fd ["self", "x"] []
  col : ∃ f fd, Meth K CT "column" f ∧ FnOk P w K mg base (L2N.CX P w) 5 f fd ["self", "name"] (spTabC CC CT CN) ∧ Binds K fd ["self", "name"] []
  flags : Cal P w K mg base CX0 "_law_flags" 1 ["column"] (spFlags CC)
def spTells (CC CT : Addr) : Sp := fun vs H Q _ => ∃ (p l : Addr) (cs : List ColR), vs = [.ref p, .ref l] ∧ TabAt CC CT H p cs ∧ TupsAt H l cs ∧ GoodC cs ∧ ∀ G, Same H G → Q (.bl true) G
abbrev nTells : List Str := ["table", "columns", "names", "one", "name"]
theorem scTells : FnScope nTells ["table", "columns"] (defScope sTells) := ⟨rfl, rfl, rfl, by decide +kernel, rfl, by decide +kernel, by decide +kernel⟩
theorem tups_step {H0 G : Hp} {D t : Addr} {cs : List ColR} {c : ColR} {ts : List Addr} {G2 : Hp} (h1 : G D = some (.lst (ts.map V.ref))) (h2 : Paired (TupAt G) ts cs) (h3 : Same H0 G) (nD : H0 D = none) (s : Same G G2) (ht : TupAt G2 t c) :
    (upd G2 D (.lst (ts.map V.ref ++ [.ref t]))) D = some (.lst ((ts ++ [t]).map V.ref)) ∧ Paired (TupAt (upd G2 D (.lst (ts.map V.ref ++ [.ref t])))) (ts ++ [t]) (cs ++ [c]) ∧ Same H0 (upd G2 D (.lst (ts.map V.ref ++ [.ref t]))) := by
  have mv : ∀ u d, TupAt G2 u d → TupAt (upd G2 D (.lst (ts.map V.ref ++ [.ref t]))) u d := fun u d e => by
    unfold TupAt
    rw [upd_ne (fun z => by unfold TupAt at e; rw [z, s _ _ h1] at e; cases e)]
    exact e
  exact ⟨by rw [upd_same, List.map_append]; rfl, pr_snoc (pr_map (fun u d e => mv u d (s _ _ e)) h2) (mv _ _ ht), same_at nD (h3.trans s)⟩
theorem ok_tells {f : Addr} {fd : FuncData} (F : FnP K "_law_tells" sTells f fd) (c : TabF P w K mg base CC CT CN) : FnOk P w K mg base CX0 6 f fd ["table", "columns"] (spTells CC CT) := by
  obtain ⟨fL, fdL, WL, FL, bL⟩ := c.len
  obtain ⟨gI, fdI, WI, FI, bI⟩ := c.con
  obtain ⟨fC, fdC, WC, FC, bC⟩ := c.col
  refine F.ok scTells (fun vs H Q E h => ?_) (fun cdv A outer s H vs Q E hr h => ?_)
  · obtain ⟨p, l, cs, rfl, _⟩ := h
    rfl
  · obtain ⟨p, l, cs, rfl, tb, tl, gc, k⟩ := h
    obtain ⟨dx, t, n, ps, h1, h2, h3, h4⟩ := id tb
    obtain ⟨ts, hl, pt⟩ := id tl
    have nd := scTells.nd
    have r1 : Room 1 _ := hr.mono (by decide)
    have r2 : Room 2 _ := hr.mono (by decide)
    have h9 : sizeLine = 16777216 := by decide
    have ww : ∀ c ∈ cs, IsWord c.n := fun c h => (gc.w c h).1
    refine ⟨_, PSs.nox (pss_cons (ps_setLc (i := 2) (own := [("one", 3)]) (g := gName 3) (tt := tYes) rfl nd rfl rfl (sw_true rfl rfl rfl (by decide +kernel)) (pi_list (pv 1)) (blkOk_by (N := nTells) (sc := defScope sTells) (by decide +kernel)) (fun _ _ _ _ _ => pg_name (i := 3) nd rfl (Or.inl rfl)) (fun _ _ _ _ _ => pts_nil) (fun _ _ _ _ _ => pe_ix (r := rIxT K) (by exact ix_tup) (pv 3) pe_int (fun _ _ => rfl)))
      (pss_cons (ps_if (PW.pt (pw_or (pt_not (pt_val (pe_callB call_isi (by rfl) c.C.isi (by decide +kernel) (pa_cons (pe_fld (pv 0) (by rfl)) (pa_cons (pe_bltn (v := .ty "tuple") (by rfl) c.T.tuple (by decide +kernel) rfl) pa_nil)))))
          (pw_or (pt_cmpR (r := rNeD K) (by exact op_neD hr.units) (pe_callTy call_list_of (by rfl) c.T.list (by decide +kernel) (pa_cons (pe_fld (pv 0) (by rfl)) pa_nil)) (pv 2) (nomark _))
          (pw_or1 (pt_cmpR op_ne (pe_callB (Cl.call_lenO WL FL bL r2) (by rfl) c.T.len PySem.boot_len (pa_cons (pv 0) pa_nil)) (pe_callB call_len_seq (by rfl) c.T.len PySem.boot_len (pa_cons (pv 1) pa_nil)) (nomark _)))))) (pss_one (ps_ret pe_bl)) pss_nil)
      (pss_cons (ps_if (PW.pt (pw_or (pt_not (pt_val (pe_callB call_isi (by rfl) c.C.isi (by decide +kernel) (pa_cons (pe_fld (pv 0) (by rfl)) (pa_cons (pe_bltn (v := .ty "tuple") (by rfl) c.T.tuple (by decide +kernel) rfl) pa_nil)))))
          (pw_or1 (pt_cmpR (r := rNeD K) (by exact op_neD hr.units) (pe_lc (own := [("one", 3)]) (g := gName 3) (tt := tYes) rfl nd (pi_tup (pe_fld (pv 0) (by rfl))) (blkOk_by (N := nTells) (sc := defScope sTells) (by decide +kernel)) (fun _ _ _ _ _ => pg_name (i := 3) nd rfl (Or.inl rfl)) (fun _ _ _ _ _ => pts_nil) (fun _ _ _ _ _ => pe_cal c.flags r1 (pa_cons (pv 3) pa_nil))) (pv 1) (nomark _))))) (pss_one (ps_ret pe_bl)) pss_nil)
      (pss_cons (ps_if (pt_cmpR (r := rNeD K) (by exact op_neD hr.units) (pe_lc (own := [("name", 4)]) (g := gName 4) (tt := tYes) rfl nd (pi_list (pv 2)) (blkOk_by (N := nTells) (sc := defScope sTells) (by decide +kernel)) (fun _ _ _ _ _ => pg_name (i := 4) nd rfl (Or.inl rfl)) (fun _ _ _ _ _ => pts_nil) (fun _ _ _ _ _ => pe_cal c.flags r1 (pa_cons (pe_meth (pv 0) c.cl WC FC hr bC .nil pass_no (pa_cons (pv 4) pa_nil)) pa_nil))) (pv 1) (nomark _)) (pss_one (ps_ret pe_bl)) pss_nil)
      (pss_one (ps_ret (pe_cmpR (r := rEqD K) (by exact op_eqD hr.units) (pe_lc (own := [("name", 4)]) (g := gName 4) (tt := tYes) rfl nd (pi_list (pv 2)) (blkOk_by (N := nTells) (sc := defScope sTells) (by decide +kernel)) (fun _ _ _ _ _ => pg_name (i := 4) nd rfl (Or.inl rfl)) (fun _ _ _ _ _ => pts_nil) (fun _ _ _ _ _ => pe_cmpR (Oc.op_inO WI FI bI r1) (pv 4) (pv 0) (by rfl)))
        (pe_op op_rep (pe_lst (pa_cons pe_bl pa_nil)) (pe_callB call_len_seq (by rfl) c.T.len PySem.boot_len (pa_cons (pv 2) pa_nil))) (nomark _)))))))), ?_⟩
    have lp := pr_len h4
    have lt := pr_len pt
    refine sq_set (fun x G => ∃ D, x = .ref D ∧ H D = none ∧ Same H G ∧ G D = some (.lst (nmsV cs))) (fun Q q => ?_) ?_
    · refine ⟨_, rfl, l, rfl, ⟨_, SqL.of hl⟩, fun D nD => ?_⟩
      refine lc_list (xs := ts.map V.ref) (fun j G => G D = some (.lst ((nmsV cs).take j)) ∧ Same H G) ⟨upd_same, Lw.Same.new (Same.refl H) nD⟩ (fun j G _ h => SqL.of (h.2 _ _ hl)) ?_ ?_
      · rintro j x G hx ⟨gD, sG⟩
        rw [List.getElem?_map] at hx
        obtain ⟨t, ht, rfl⟩ := Option.map_eq_some_iff.mp hx
        have jl : j < cs.length := by rw [← lt]; exact (List.getElem?_eq_some_iff.mp ht).1
        have ec : cs[j]? = some cs[j] := List.getElem?_eq_getElem jl
        have tt := pr_at pt ht ec
        refine ⟨rfl, _, rfl, t, _, 0, .str cs[j].n, rfl, rfl, SqT.of (sG _ _ tt), rfl, _, gD, ?_, ?_, same_at nD sG⟩
        · rw [List.length_take]
          have := gc.hi
          omega
        · rw [upd_same, nms_take ec]
      · rintro G ⟨gD, sG⟩
        rw [List.length_map, lt, ← nms_len cs, List.take_length] at gD
        exact q _ _ ⟨D, rfl, nD, sG, gD⟩
    rintro _ G ⟨D, rfl, nD, sG, gD⟩
    have hpG := sG _ _ h1
    have fnd : ∀ {G' : Hp}, Same H G' → ∀ {j : Nat} {c : ColR}, cs[j]? = some c → ∀ j' c', j' < j → cs[j']? = some c' → c'.n ≠ c.n := fun {G'} _ {j c} ec j' c' hl' ec' e => by
      have e1 : (cs.map ColR.n)[j]? = some c.n := by rw [List.getElem?_map, ec]; rfl
      have e2 : (cs.map ColR.n)[j']? = some c'.n := by rw [List.getElem?_map, ec']; rfl
      have jb := (List.getElem?_eq_some_iff.mp e2).1
      have := (List.getElem?_inj jb gc.nd).mp (e2.trans (by rw [e1, e]))
      omega
    refine sq_if1 (fun b' G2 => Same G G2 ∧ b' = false) (fun Q q => ?_) ?_ ?_
    · refine ⟨_, rfl, p, CT, dx, _, _, rfl, hpG, c.cl, c.T.n2, rfl, _, _, _, _, true, rfl, .ty _, .base (.tup (sG _ _ h3)), kit_ty (by decide +kernel), true, rfl, iteF ?_⟩
      refine ⟨_, rfl, p, CT, dx, _, _, rfl, hpG, c.cl, c.T.n2, rfl, n, _, rfl, .inr (SqT.of (sG _ _ h3)), fun l1 nl1 => ?_⟩
      have s1 := Lw.Same.new (o := .lst (nmsV cs)) (Same.refl G) nl1
      have wn : ∀ z ∈ cs.map ColR.n, IsWord z := fun z hz => by
        obtain ⟨c, hc, rfl⟩ := List.mem_map.mp hz
        exact ww c hc
      refine ⟨_, rfl, .list ((cs.map ColR.n).map PyData.str), .list ((cs.map ColR.n).map PyData.str), .lst (SqL.of upd_same) (dp_strs _), .lst (SqL.of (s1 _ _ gD)) (dp_strs _), shaped_strs _ wn, shaped_strs _ wn, _, rfl, itFb (by rw [eqv_strs wn]; rfl) ?_⟩
      refine ⟨_, rfl, p, dx, _, rfl, s1 _ _ hpG, p, cs, rfl, tb.same (sG.trans s1), cs.length, by have := gc.hi; omega, rfl, ?_⟩
      refine ⟨_, rfl, l, _, rfl, .inl (SqL.of (s1 _ _ (sG _ _ hl))), rfl, _, rfl, q _ _ ⟨s1, ?_⟩⟩
      rw [List.length_map, lt, decide_eq_true rfl]
      rfl
    · rintro _ ⟨_, e⟩
      cases e
    rintro G2 ⟨s2, _⟩
    have sH2 := sG.trans s2
    refine sq_if1 (fun b' G3 => Same G2 G3 ∧ b' = false) (fun Q q => ?_) ?_ ?_
    · refine ⟨_, rfl, p, CT, dx, _, _, rfl, s2 _ _ hpG, c.cl, c.T.n1, rfl, _, _, _, _, true, rfl, .ty _, .base (.tup (sH2 _ _ h2)), kit_ty (by decide +kernel), true, rfl, iteF ?_⟩
      refine ⟨_, rfl, p, CT, dx, _, _, rfl, s2 _ _ hpG, c.cl, c.T.n1, rfl, t, rfl, ⟨_, SqT.of (sH2 _ _ h2)⟩, fun M nM => ?_⟩
      refine lc_tup (xs := ps.map V.ref) (fun j G3 => ∃ us : List Addr, G3 M = some (.lst (us.map V.ref)) ∧ Paired (TupAt G3) us (cs.take j) ∧ Same G2 G3) ⟨[], upd_same, .nil, Lw.Same.new (Same.refl G2) nM⟩ (fun j G3 _ ⟨_, _, _, s⟩ => SqT.of (s _ _ (sH2 _ _ h2))) ?_ ?_
      · rintro j x G3 hx ⟨us, g1, g2, s3⟩
        rw [List.getElem?_map] at hx
        obtain ⟨q', hq', rfl⟩ := Option.map_eq_some_iff.mp hx
        have jl : j < cs.length := by rw [← lp]; exact (List.getElem?_eq_some_iff.mp hq').1
        have ec : cs[j]? = some cs[j] := List.getElem?_eq_getElem jl
        have ca := (pr_at h4 hq' ec).same (sH2.trans s3)
        refine ⟨rfl, _, rfl, q', cs[j], rfl, ca, fun t2 G4 s4 nt2 ht2 => ?_⟩
        obtain ⟨b1, b2, b3⟩ := tups_step g1 g2 s3 nM s4 ht2
        refine ⟨_, s4 _ _ g1, ?_, us ++ [t2], b1, ?_, b3⟩
        · rw [List.length_map, pr_len g2, List.length_take]
          have := gc.hi
          omega
        · rw [show cs.take (j + 1) = cs.take j ++ [cs[j]] from by rw [List.take_succ, ec]; rfl]
          exact b2
      · rintro G3 ⟨us, g1, g2, s3⟩
        rw [List.length_map, lp, List.take_length] at g2
        refine ⟨_, rfl, ne_tups ww ww ⟨us, g1, g2⟩ (tl.same (sH2.trans s3)) ⟨_, rfl, q _ _ ⟨s3, by rw [decide_eq_true rfl]; rfl⟩⟩⟩
    · rintro _ ⟨_, e⟩
      cases e
    rintro G3 ⟨s3, _⟩
    have sH3 := sH2.trans s3
    have gD3 := s3 _ _ (s2 _ _ gD)
    refine sq_if1 (fun b' G4 => Same G3 G4 ∧ b' = false) (fun Q q => ?_) ?_ ?_
    · refine ⟨_, rfl, D, rfl, ⟨_, SqL.of gD3⟩, fun M nM => ?_⟩
      refine lc_list (xs := nmsV cs) (fun j G4 => ∃ us : List Addr, G4 M = some (.lst (us.map V.ref)) ∧ Paired (TupAt G4) us (cs.take j) ∧ Same G3 G4) ⟨[], upd_same, .nil, Lw.Same.new (Same.refl G3) nM⟩ (fun j G4 _ ⟨_, _, _, s⟩ => SqL.of (s _ _ gD3)) ?_ ?_
      · rintro j x G4 hx ⟨us, g1, g2, s4⟩
        have jl : j < cs.length := by rw [← nms_len cs]; exact (List.getElem?_eq_some_iff.mp hx).1
        have ec : cs[j]? = some cs[j] := List.getElem?_eq_getElem jl
        have en : x = .str cs[j].n := by
          unfold nmsV at hx
          rw [List.getElem?_map, List.getElem?_map, ec] at hx
          exact (Option.some.inj hx).symm
        subst en
        have s34 := sH3.trans s4
        refine ⟨rfl, _, rfl, p, dx, _, rfl, s34 _ _ h1, rfl, _, rfl, p, .str cs[j].n, cs, rfl, tb.same s34, .str _, .inl ⟨j, cs[j], ec, rfl, fnd s34 ec, fun q' hq' => ?_⟩⟩
        refine ⟨q', cs[j], rfl, hq', fun t2 G5 s5 nt2 ht2 => ?_⟩
        obtain ⟨b1, b2, b3⟩ := tups_step g1 g2 s4 nM s5 ht2
        refine ⟨_, s5 _ _ g1, ?_, us ++ [t2], b1, ?_, b3⟩
        · rw [List.length_map, pr_len g2, List.length_take]
          have := gc.hi
          omega
        · rw [show cs.take (j + 1) = cs.take j ++ [cs[j]] from by rw [List.take_succ, ec]; rfl]
          exact b2
      · rintro G4 ⟨us, g1, g2, s4⟩
        rw [nms_len, List.take_length] at g2
        refine ⟨_, rfl, ne_tups ww ww ⟨us, g1, g2⟩ (tl.same (sH3.trans s4)) ⟨_, rfl, q _ _ ⟨s4, by rw [decide_eq_true rfl]; rfl⟩⟩⟩
    · rintro _ ⟨_, e⟩
      cases e
    rintro G4 ⟨s4, _⟩
    have sH4 := sH3.trans s4
    have gD4 := s4 _ _ gD3
    refine ⟨_, rfl, D, rfl, ⟨_, SqL.of gD4⟩, fun M nM => ?_⟩
    refine lc_list (xs := nmsV cs) (fun j G5 => G5 M = some (.lst ((List.replicate j true).map V.bl)) ∧ Same G4 G5) ⟨upd_same, Lw.Same.new (Same.refl G4) nM⟩ (fun j G5 _ h => SqL.of (h.2 _ _ gD4)) ?_ ?_
    · rintro j x G5 hx ⟨g1, s5⟩
      have jl : j < cs.length := by rw [← nms_len cs]; exact (List.getElem?_eq_some_iff.mp hx).1
      have ec : cs[j]? = some cs[j] := List.getElem?_eq_getElem jl
      have en : x = .str cs[j].n := by
        unfold nmsV at hx
        rw [List.getElem?_map, List.getElem?_map, ec] at hx
        exact (Option.some.inj hx).symm
      subst en
      have s45 := sH4.trans s5
      have yes : inN cs (.str cs[j].n) = true := by
        rw [inN_of]
        exact decide_eq_true (List.mem_map.mpr ⟨_, List.mem_of_getElem? ec, rfl⟩)
      refine ⟨rfl, _, rfl, _, rfl, p, dx, _, rfl, s45 _ _ h1, p, .str cs[j].n, cs, rfl, tb.same s45, .str _, _, rfl, _, g1, ?_, ?_, same_at nM s5⟩
      · rw [List.length_map, List.length_replicate]
        have := gc.hi
        omega
      · rw [upd_same, yes, List.replicate_succ', List.map_append]
        rfl
    · rintro G5 ⟨g1, s5⟩
      rw [nms_len] at g1
      refine ⟨(by show 1 ≤ sizeLine; decide), fun l1 n1 => ⟨_, rfl, D, _, rfl, .inl (SqL.of ((Lw.Same.new s5 n1) _ _ gD4)), l1, _, _, rfl, rfl, upd_same, by rw [nms_len]; have := gc.hi; omega, by rw [nms_len]; have := gc.hi; omega, ?_, fun M2 n2 => ?_⟩⟩
      · rw [nms_len, Int.toNat_natCast]
        have := gc.hi
        show 1 * cs.length ≤ sizeLine
        omega
      · rw [nms_len, Int.toNat_natCast]
        have e1 : (List.replicate cs.length ([.bl true] : List V)).flatten = (List.replicate cs.length true).map V.bl := by
          generalize cs.length = m
          induction m with
          | zero => rfl
          | succ m ih => rw [List.replicate_succ, List.flatten_cons, ih, List.replicate_succ]; rfl
        rw [e1]
        have sA := (Lw.Same.new (o := .lst [.bl true]) (Same.refl G5) n1)
        have sB := (Lw.Same.new (o := .lst ((List.replicate cs.length true).map V.bl)) (Same.refl _) n2)
        refine ⟨.list ((List.replicate cs.length true).map PyData.bool), .list ((List.replicate cs.length true).map PyData.bool), .lst (SqL.of (sB _ _ (sA _ _ g1))) (dp_bls _), .lst (SqL.of upd_same) (dp_bls _), bls_shaped _, bls_shaped _, ?_⟩
        rw [show PyData.eqv (.list ((List.replicate cs.length true).map PyData.bool)) (.list ((List.replicate cs.length true).map PyData.bool)) = true from PySem.SeqAt.eqv_refl (.list ((List.replicate cs.length true).map PyData.bool)) (bls_ok _).1]
        exact k _ (sH4.trans (s5.trans (sA.trans sB)))
end
end Lw

set_option Elab.async false
set_option linter.all false
set_option maxRecDepth 100000
set_option maxHeartbeats 2000000
namespace Me
open PySem PySem.Spec PyProof.Rows L2
/-! o.m(e, ..) in a try's body: what is raised meets the slots as they are -/
section
variable {X : Cx} {C f : Addr} {m : PySem.Str} {k : Nat} {fd : FuncData} {ps : List PySem.Str} {sp : Sp} {o e : Expr} {es : List Expr} {ta : TE} {t : TA} {apos pos : Pos}
def tMethE (C : Addr) (m : PySem.Str) (sp : Sp) (W : WX) (ta : TE) (t : TA) : TE := fun σ H Q => ta σ H fun x H1 => ∃ a dx fs, x = .ref a ∧ H1 a = some (.ins C dx fs) ∧ fs.lookup m = none ∧
  t σ H1 fun vs H2 => sp (x :: vs) H2 Q (fun c d H => W c d σ H)
theorem passN {W : WX} (tk : L2N.Takes X W) (σ : L2.St) : PassesAt (L2N.CX X.prog X.w) X σ (fun c d H => W c d σ H) := fun _ _ _ e s' I c => tk e s' (L2N.XE.of_call (W := W) (E := fun c d H => W c d σ H) I (fun _ _ _ h => h) c)
theorem pe_methE {W : WX} {pl : Sem Bool} (he : PE X o ta) (c : Cls X.K C) (hm : Meth X.K C m f) (F : FnOk X.prog X.w X.K X.mg X.base (L2N.CX X.prog X.w) k f fd ps sp) (hr : Room k X.A) (hb : Binds X.K fd ps []) (tk : L2N.Takes X W) (ha : PA X (e :: es) t)
    (hst : starEach (e :: es) X.env = (false, eval e X.env) :: starEach es X.env := by rfl) (hpl : (backTo pos (starEach es X.env)).any (·.1) = false := by rfl)
    (ht : eval (.Call (.Attribute o m apos) (e :: es) [] pos) X.env = (do
      let ov ← eval o X.env
      standAt apos.atName
      let (f, first) ← holding [ov] (getMethod ov m pl)
      callWith pos f first (backTo pos (starEach (e :: es) X.env)) (backToKw pos (keywordEach [] X.env))) := by rfl) :
    PE X (.Call (.Attribute o m apos) (e :: es) [] pos) (tMethE C m sp W ta t) := by
  refine ⟨fun pins s σ H Q I h => ?_⟩
  refine PySem.W.methodCall_KW (pl := pl) (thn (he.run pins s σ H _ I h) fun u s1 ⟨x, H1, I1, rx, a, dx, fs, ex, ea, l, q⟩ => ?_) ht
  subst ex
  obtain rfl : u = Value.ref a := rx
  refine getmeth_ok I1 ea c hm l ?_
  refine PySem.W.callWith_K (first := [.ref a]) (h₀ := X.base) I.ok.mod.kin hm.kp (thn (ha.run pos pins s1 σ H1 _ I1 q) fun us s2 ⟨vs, H2, I2, r, q2⟩ => ⟨I2.kIn, ?_⟩) hst hpl
  exact run_fnS (E := fun σ c d H => W c d σ H) (us := .ref a :: us) (vs := .ref a :: vs) F hr hb (passN tk σ) I2 (.cons rfl r) q2
end
end Me

set_option Elab.async false
set_option linter.all false
set_option maxRecDepth 100000
set_option maxHeartbeats 40000000
namespace Lw
open PySem PySem.Spec PyProof.Rows L2
abbrev sOddL : Stmt := top 18
abbrev sMissing : Stmt := top 22
section
variable {P : Program} {w : World} {K : PySem.W.Frag} {mg : Str → Option Value} {base : Heap}
end
def Tells (d : PyData) : Prop := d.showable = true ∧ d.depth ≤ 16 ∧ d.shown.length ≤ sizeLine
/-! the odd values as data -/
def oddDs : List PyData := [.str "", .str "abcdefghi", .str "A", .str "aB", .str "a1", .str "a b", .str " a", .str "a_", .str "-", .none, .int 0, .int 1, .bool true, .bool false, .int (-7), .int (10 ^ 30), .tuple [.str "a"], .list [.str "a"], .dict [(.str "a", .str "b")], .tuple [], .list [], .str "key"]
def OddV (a : Addr) (H : Hp) (v : V) : Prop := v ≠ .ref a ∧ ∃ d, d ∈ oddDs ∧ Sh H v d
theorem Sh.keep {a : Addr} {H G : Hp} (k : Keep a H G) {v : V} {d : PyData} (n : v ≠ .ref a) (h : Sh H v d) : Sh G v d := by
  have ne : ∀ {p : Addr}, V.ref p ≠ V.ref a → p ≠ a := fun n e => n (by rw [e])
  cases h with
  | fl h => exact .fl h
  | lst h p m => exact .lst (k _ _ (ne n) h) p m
  | tup h p m => exact .tup (k _ _ (ne n) h) p m
  | dic h f => exact .dic (k _ _ (ne n) h) f
theorem OddV.keep {a : Addr} {H G : Hp} (k : Keep a H G) {v : V} (h : OddV a H v) : OddV a G v := by
  obtain ⟨n, d, m, s⟩ := h
  exact ⟨n, d, m, s.keep k n⟩
def spOdd2 : Sp := fun vs H Q _ => ∃ (a : Addr) (n : Nat), vs = [.ref a] ∧ Src H a n ∧ n ≤ 900000000 ∧ ∀ H' v, Keep a H H' → Src H' a (n + 1) → OddV a H' v → Q v H'
theorem odd_facts : ∀ d ∈ oddDs, (d.showable && (decide (d.depth ≤ 16) && (decide (d.shown.length ≤ sizeLine) && SeqAt.shaped (.tuple [.str "error", .bool false, .str d.shown])))) = true ∧ (match d with | .str z => !isWordB z || decide (z = "key") | _ => true) = true := by
  decide +kernel
theorem odd_tells {d : PyData} (h : d ∈ oddDs) : Tells d := by
  obtain ⟨h1, h⟩ := Bool.and_eq_true_iff.mp (odd_facts d h).1
  obtain ⟨h2, h⟩ := Bool.and_eq_true_iff.mp h
  obtain ⟨h3, _⟩ := Bool.and_eq_true_iff.mp h
  exact ⟨h1, of_decide_eq_true h2, of_decide_eq_true h3⟩
theorem odd_pw {H : Hp} {v : V} {d : PyData} (h : Sh H v d) : Et.Pw H v := by
  cases h with
  | fl h =>
    cases h with
    | non => exact .non
    | bl b => exact .bl b
    | int i => exact .int i
    | str z => exact .str z
  | lst h p n => exact .box (.lst h)
  | tup h p n => exact .box (.tup h)
  | dic h f => exact .box (.dic h)
theorem odd_not {H : Hp} {v : V} {d : PyData} (hd : d ∈ oddDs) (h : Sh H v d) {z : Str} (hz : IsWord z) (nk : z ≠ "key") : Et.isT z v = false := by
  cases h with
  | fl h =>
    cases h with
    | str y =>
      refine decide_eq_false fun e => ?_
      subst e
      have e := (odd_facts _ hd).2
      have e2 : (!isWordB z || decide (z = "key")) = true := e
      rw [isWordB_true hz, decide_eq_false nk] at e2
      cases e2
    | _ => rfl
  | _ => rfl
theorem oddV_at {a : Addr} {H : Hp} {v : V} {d : PyData} (i : Nat) (n : v ≠ .ref a) (h : Sh H v d) (e : oddDs[i]? = some d) : OddV a H v := ⟨n, d, List.mem_of_getElem? e, h⟩
section
variable {P : Program} {w : World} {K : PySem.W.Frag} {mg : Str → Option Value} {base : Heap}
theorem scOdd3 : FnScope ["source"] ["source"] (defScope sOddL) := ⟨rfl, rfl, rfl, by decide +kernel, rfl, by decide +kernel, by decide +kernel⟩
theorem ok_odd2 {f : Addr} {fd : FuncData} (F : FnP K "_law_odd" sOddL f fd) (cO : Cal P w K mg base CX0 "_law_of" 2 ["source", "some"] (spOf K)) : FnOk P w K mg base CX0 3 f fd ["source"] spOdd2 := by
  refine F.ok scOdd3 (fun vs H Q E h => ?_) (fun cdv A outer s0 H vs Q E hr h => ?_)
  · obtain ⟨a, n, rfl, _⟩ := h
    rfl
  · obtain ⟨a, n, rfl, hs, hn, k⟩ := h
    refine ⟨_, PSs.nox (pss_one (ps_ret (pe_cal cO hr (pa_cons (pv 0) (pa_cons (pe_lst (pa_cons pe_str (pa_cons pe_str (pa_cons pe_str (pa_cons pe_str (pa_cons pe_str (pa_cons pe_str (pa_cons pe_str (pa_cons pe_str (pa_cons pe_str
      (pa_cons pe_non (pa_cons pe_int (pa_cons pe_int (pa_cons pe_bl (pa_cons pe_bl (pa_cons (pe_un un_neg pe_int) (pa_cons (pe_op op_pow pe_int pe_int) (pa_cons (pe_tup (pa_cons pe_str pa_nil)) (pa_cons (pe_lst (pa_cons pe_str pa_nil))
      (pa_cons (pe_disp (pps_cons pe_str pe_str pps_nil) (by rfl) (by rfl) (fun z => by cases z) (by decide)) (pa_cons (pe_tup pa_nil) (pa_cons (pe_lst pa_nil) pa_nil)))))))))))))))))))))) pa_nil))))), ?_⟩
    refine ⟨_, rfl, _, rfl, _, _, rfl, rfl, ⟨by decide, by decide, by decide⟩, (by show 1 ≤ sizeLine; decide), fun t1 n1 => ⟨(by show 1 ≤ sizeLine; decide), fun l1 n2 => fun d1 n3 => ⟨upd_same, [(.inr "a", .str "b")], rfl, (by show 1 ≤ 15; decide), (by show 0 ≤ sizeLine; decide), fun t2 n4 => ⟨(by show 0 ≤ sizeLine; decide), fun l2 n5 => ⟨(by show 21 ≤ sizeLine; decide), fun L n6 => ?_⟩⟩⟩⟩⟩
    have s1 := Lw.Same.new (o := .tup [.str "a"]) (Same.refl H) n1
    have s2 := Lw.Same.new (o := .lst [.str "a"]) (Same.refl _) n2
    have s3 := same_new2 (o := .dK []) (u := .dK (mergeK [] [(.inr "a", .str "b")])) n3
    have s4 := Lw.Same.new (o := .tup []) (Same.refl _) n4
    have s5 := Lw.Same.new (o := .lst []) (Same.refl _) n5
    have s6 := Lw.Same.new (o := .lst [.str "", .str "abcdefghi", .str "A", .str "aB", .str "a1", .str "a b", .str " a", .str "a_", .str "-", .non, .int 0, .int 1, .bl true, .bl false, .int (-7), .int (10 ^ 30), .ref t1, .ref l1, .ref d1, .ref t2, .ref l2]) (Same.refl _) n6
    have e6 := s6
    have e5 := s5.trans e6
    have e4 := s4.trans e5
    have e3 := s3.trans e4
    have e2 := s2.trans e3
    have e1 := s1.trans e2
    have a1 : t1 ≠ a := hs.ne n1
    have a2 : l1 ≠ a := (hs.same s1).ne n2
    have a3 : d1 ≠ a := (hs.same (s1.trans s2)).ne n3
    have a4 : t2 ≠ a := (hs.same ((s1.trans s2).trans s3)).ne n4
    have a5 : l2 ≠ a := (hs.same (((s1.trans s2).trans s3).trans s4)).ne n5
    have a6 : L ≠ a := (hs.same ((((s1.trans s2).trans s3).trans s4).trans s5)).ne n6
    refine ⟨a, L, n, _, rfl, hs.same e1, by omega, a6, SqL.of upd_same, (fun z => by cases z), (by show 21 ≤ 100000; decide), fun H' x kp sr hx => ?_⟩
    have nr : ∀ {q : Addr}, q ≠ a → V.ref q ≠ V.ref a := fun n e => n (by cases e; rfl)
    refine k H' x ((Keep.of_same e1).trans kp) sr (OddV.keep kp ?_)
    simp only [List.mem_cons, List.not_mem_nil, or_false] at hx
    rcases hx with rfl | rfl | rfl | rfl | rfl | rfl | rfl | rfl | rfl | rfl | rfl | rfl | rfl | rfl | rfl | rfl | rfl | rfl | rfl | rfl | rfl
    · exact oddV_at 0 (fun e => by cases e) (.fl (.str _)) rfl
    · exact oddV_at 1 (fun e => by cases e) (.fl (.str _)) rfl
    · exact oddV_at 2 (fun e => by cases e) (.fl (.str _)) rfl
    · exact oddV_at 3 (fun e => by cases e) (.fl (.str _)) rfl
    · exact oddV_at 4 (fun e => by cases e) (.fl (.str _)) rfl
    · exact oddV_at 5 (fun e => by cases e) (.fl (.str _)) rfl
    · exact oddV_at 6 (fun e => by cases e) (.fl (.str _)) rfl
    · exact oddV_at 7 (fun e => by cases e) (.fl (.str _)) rfl
    · exact oddV_at 8 (fun e => by cases e) (.fl (.str _)) rfl
    · exact oddV_at 9 (fun e => by cases e) (.fl .non) rfl
    · exact oddV_at 10 (fun e => by cases e) (.fl (.int _)) rfl
    · exact oddV_at 11 (fun e => by cases e) (.fl (.int _)) rfl
    · exact oddV_at 12 (fun e => by cases e) (.fl (.bl _)) rfl
    · exact oddV_at 13 (fun e => by cases e) (.fl (.bl _)) rfl
    · exact oddV_at 14 (fun e => by cases e) (.fl (.int _)) rfl
    · exact oddV_at 15 (fun e => by cases e) (.fl (.int _)) rfl
    · exact oddV_at 16 (nr a1) (.tup (e2 _ _ upd_same) (.cons (.str _) .nil) (by show 1 ≤ 1000; decide)) rfl
    · exact oddV_at 17 (nr a2) (.lst (e3 _ _ upd_same) (.cons (.str _) .nil) (by show 1 ≤ 1000; decide)) rfl
    · exact oddV_at 18 (nr a3) (.dic (z := "a") (e4 _ _ upd_same) (.str _)) rfl
    · exact oddV_at 19 (nr a4) (.tup (e5 _ _ upd_same) .nil (by show 0 ≤ 1000; decide)) rfl
    · exact oddV_at 20 (nr a5) (.lst (e6 _ _ upd_same) .nil (by show 0 ≤ 1000; decide)) rfl
/-! a name that a table has not -/
open Lg
theorem word_tells {z : Str} (h : IsWord z) : Tells (.str z) := by
  refine ⟨rfl, by show 0 ≤ 16; decide, ?_⟩
  have hl : (PyData.str z).leavesShort 60 = true := by
    simp only [PyData.leavesShort, List.all_eq_true, decide_eq_true_eq]
    intro c hc
    have := (h.2.2 c hc).2
    have e : (16 : Nat) ^ 8 = 4294967296 := by decide
    omega
  have z1 := PyData.shown_le 60 (by decide) (.str z) hl
  have w : (PyData.str z).weight ≤ 8 := h.2.1
  have big : (100849 : Nat) ≤ sizeLine := by decide
  have : (60 + 2) * (PyData.str z).weight ≤ 62 * 8 := Nat.mul_le_mul_left _ w
  omega
structure TxtMi (K : PySem.W.Frag) (mg : Str → Option Value) (CN CE : Addr) : Prop where
  isi : mg "isinstance" = none
  lk : mg "LookupError" = none
  repr : mg "repr" = none
  gN : mg "NoColumn" = some (.ref CN)
  gE : mg "CopiesError" = some (.ref CE)
  exc : ExcC K CN
  xf : XfC K CN
  nA : PySem.W.findIn K (.ref CN) "name" = some none
  exm : PySem.W.exmOne K (.ref CN) (.ref CN) = some true
  kL : PySem.W.kitOne K (.ref CN) (.type "LookupError") = some true
  kE : PySem.W.kitOne K (.ref CN) (.ref CE) = some false
def spMissing (CC CT : Addr) : Sp := fun vs H Q _ => ∃ (p : Addr) (v : V) (cs : List ColR) (d : PyData), vs = [.ref p, v] ∧ TabAt CC CT H p cs ∧ Et.Pw H v ∧ inN cs v = false ∧ Sh H v d ∧ Tells d ∧ ∀ G, Same H G → Q (.bl true) G
theorem takesN {X : Cx} : L2N.Takes X (fun _ _ _ _ => False) := fun u s' h => by
  obtain ⟨_, _, _, _, _, _, _, _, _, _, _, _, _, _, _, _, z⟩ := h
  exact z.elim
abbrev nMiss : List Str := ["table", "name", "e"]
theorem scMiss : FnScope nMiss ["table", "name"] (defScope sMissing) := ⟨rfl, rfl, rfl, by decide +kernel, rfl, by decide +kernel, by decide +kernel⟩
theorem ok_missing {CE f : Addr} {fd : FuncData} (F : FnP K "_law_missing" sMissing f fd) (T : TxtMi K mg CN CE) (c : TabF P w K mg base CC CT CN) (y : SysIn K) : FnG P w K mg base CX0 6 f fd ["table", "name"] (spMissing CC CT) := by
  obtain ⟨fC, fdC, WC, FC, bC⟩ := c.col
  refine okG F scMiss (fun vs H Q E h => ?_) (fun cdv A outer s0 H vs Q E gd hr h => ?_)
  · obtain ⟨p, v, cs, d, rfl, _⟩ := h
    rfl
  · obtain ⟨p, v, cs, d, rfl, tb, pw, no, hs, ⟨t1, t2, t3⟩, k⟩ := h
    have nd := scMiss.nd
    have un : (A.deeper (envOfC "_law_missing" (defScope sMissing) s0.heap.objs.size f cdv)).units + 200 < cLine := by
      have := hr.un
      omega
    refine ⟨_, PSs.nox (pss_cons (L2N.ps_try_as (i := 2) (tb := fun W => tDrop (Me.tMethE CT "column" (spTabC CC CT CN) W (tVar 0) (tCons (tVar 1) tNil)))
        (ts := fun a cls d => tRet (tAndV (tCB (rIsED K cls d a) (tCons (tVar 2) (tCons (tC (.ty "LookupError")) tNil))) (tAndV (tNotV (tCB (rIsED K cls d a) (tCons (tVar 2) (tCons (tC (.ref CE)) tNil)))) (tOp rEq (tCB rRepr (tCons (tXf a cls d CN "name" (tVar 2)) tNil)) (tCB rRepr (tCons (tVar 1) tNil))))))
        (Wout := fun _ _ _ _ => False) rfl rfl scMiss.nd rfl rfl ⟨rfl, by decide, Or.inl T.gN⟩ takesN
        (fun W pn xe tk _ => pss_one (ps_expr (Me.pe_methE (pv 0) c.cl WC FC hr bC tk (pa_cons (pv 1) pa_nil))))
        (fun a oe cls d pn hz hf => pss_one (ps_ret (pe_and (pe_callB (call_isED hz.zc hf) (by rfl) T.isi (by decide +kernel) (pa_cons (pv 2) (pa_cons (pe_bltn (v := .ty "LookupError") (by rfl) T.lk (by decide +kernel) rfl) pa_nil)))
          (pe_and (pe_not (pe_callB (call_isED hz.zc hf) (by rfl) T.isi (by decide +kernel) (pa_cons (pv 2) (pa_cons (pe_glob (v := .ref CE) rfl T.gE rfl) pa_nil))))
            (pe_one (pe_cmpR op_eq (pe_callB (call_repr y gd un) (by rfl) T.repr (by decide +kernel) (pa_cons (pe_xf T.xf T.nA hz.zc hf (pv 2)) pa_nil)) (pe_callB (call_repr y gd un) (by rfl) T.repr (by decide +kernel) (pa_cons (pv 1) pa_nil)) (nomark _))))))))
      (pss_one (ps_ret pe_bl))), ?_⟩
    obtain ⟨dx, t, n, ps, h1, h2, h3, h4⟩ := id tb
    refine ⟨_, rfl, p, dx, _, rfl, h1, rfl, _, rfl, p, v, cs, rfl, tb, pw, .inr ⟨no, d, hs, fun dd G v' nd sG hG hv' => ?_⟩⟩
    refine ⟨true, T.exm, fun _ q _ => ?_, fun e => Bool.noConfusion e⟩
    refine ⟨_, rfl, CN, dd, .ty "LookupError", .type "LookupError", true, _, rfl, rfl, T.exc, rfl, fun u r => r, hG, T.kL, true, rfl, it_bt rfl ?_⟩
    refine ⟨_, rfl, CN, dd, .ref CE, .ref CE, false, _, rfl, rfl, T.exc, rfl, fun u r => r, hG, T.kE, false, rfl, true, rfl, it_bt rfl ?_⟩
    refine ⟨_, rfl, rfl, rfl, dd, _, v', rfl, hG, List.lookup_cons_self, v', d, rfl, hv'.da, t1, t2, t3, _, rfl, v, d, rfl, (hs.same sG).da, t1, t2, t3, rfl, ?_⟩
    have e : decide (V.str d.shown = V.str d.shown) = true := by simp
    rw [e]
    exact k _ sG
end
end Lw

set_option Elab.async false
set_option linter.all false
set_option maxRecDepth 100000
set_option maxHeartbeats 40000000
namespace Lw
open PySem PySem.Spec PyProof.Rows L2
abbrev sLaw : Stmt := top 24
section
variable {P : Program} {w : World} {K : PySem.W.Frag} {mg : Str → Option Value} {base : Heap}
/-! the law -/
open Lg
def Bas (H0 : Hp) (p : Addr) (H : Hp) : Prop := ∀ b o, H0 b = some o → b ≠ p ∧ H b = some o
theorem Bas.keep {H0 H H' : Hp} {p : Addr} (h : Bas H0 p H) (k : Keep p H H') : Bas H0 p H' := fun b o e => ⟨(h b o e).1, k b o (h b o e).1 (h b o e).2⟩
theorem Bas.out {H0 H : Hp} {p : Addr} (h : Bas H0 p H) : Same H0 H := fun b o e => (h b o e).2
theorem Bas.set {H0 H : Hp} {p b : Addr} {o : HO} (h : Bas H0 p H) (n : H0 b = none) : Bas H0 p (upd H b o) := fun c u e => ⟨(h c u e).1, by rw [upd_ne (ne_of_none e n)]; exact (h c u e).2⟩
theorem Src.set {H : Hp} {a b : Addr} {n : Nat} {o : HO} (h : Src H a n) (ne : b ≠ a) : Src (upd H b o) a n := by
  obtain ⟨d, s, t, e, r⟩ := h
  exact ⟨d, s, t, by rw [upd_ne ne.symm]; exact e, r⟩
theorem Bas.new {H0 H : Hp} {p b : Addr} (h : Bas H0 p H) (n : H b = none) : H0 b = none := by
  cases e : H0 b with
  | none => rfl
  | some u => have := (h b u e).2; rw [n] at this; cases this
theorem int_ite {i j : Int} {A B : Prop} (h1 : i = j → A) (h2 : i ≠ j → B) : if decide (V.int i = V.int j) = true then A else B := by
  by_cases e : i = j
  · rw [if_pos (by rw [decide_eq_true_eq, e])]; exact h1 e
  · rw [if_neg (by rw [decide_eq_true_eq]; exact fun z => e (V.int.inj z))]; exact h2 e
theorem ixN_n {n j : Nat} (hj : j < n) : ixN n (j : Int) = some j := by
  unfold ixN
  rw [if_pos (by omega), if_pos (by omega), Int.toNat_natCast]
/-- what is no list stays -/
def Kn (H G : Hp) : Prop := ∀ b o, H b = some o → (∀ xs, o ≠ .lst xs) → G b = some o
theorem Kn.refl (H : Hp) : Kn H H := fun _ _ h _ => h
theorem Kn.trans {H G J : Hp} (x : Kn H G) (y : Kn G J) : Kn H J := fun b o h n => y b o (x b o h n) n
theorem Kn.same {H G : Hp} (s : Same H G) : Kn H G := fun b o h _ => s b o h
theorem Kn.keep {H G : Hp} {a : Addr} {n : Nat} (S : Src H a n) (k : Keep a H G) : Kn H G := fun b o h nl => k b o (fun e => by
  obtain ⟨_, _, _, z, _⟩ := S
  rw [e, z] at h
  exact nl _ (Option.some.inj h).symm) h
theorem Kn.put {H : Hp} {M : Addr} {xs : List V} {o : HO} (h : H M = some (.lst xs)) : Kn H (upd H M o) := fun b u e nl => by
  rw [upd_ne (fun z => by rw [z, h] at e; exact nl _ (Option.some.inj e).symm)]
  exact e
theorem ColAt.kn {CC : Addr} {H G : Hp} {p : Addr} {c : ColR} (k : Kn H G) (h : ColAt CC H p c) : ColAt CC G p c := let ⟨dx, e⟩ := h; ⟨dx, k _ _ e fun _ z => by cases z⟩
theorem TabAt.kn {CC CT : Addr} {H G : Hp} {p : Addr} {cs : List ColR} (k : Kn H G) (h : TabAt CC CT H p cs) : TabAt CC CT G p cs := by
  obtain ⟨dx, t, n, ps, h1, h2, h3, h4⟩ := h
  exact ⟨dx, t, n, ps, k _ _ h1 (fun _ z => by cases z), k _ _ h2 (fun _ z => by cases z), k _ _ h3 (fun _ z => by cases z), pr_map (fun _ _ => ColAt.kn k) h4⟩
theorem TupAt.kn {H G : Hp} {t : Addr} {c : ColR} (k : Kn H G) (h : TupAt H t c) : TupAt G t c := k _ _ h fun _ z => by cases z
theorem TupsAt.kn {H G : Hp} {l : Addr} {cs : List ColR} (k : Kn H G) (q : ∀ xs, H l = some (.lst xs) → G l = some (.lst xs)) (h : TupsAt H l cs) : TupsAt G l cs := by
  obtain ⟨ts, h1, h2⟩ := h
  exact ⟨ts, q _ h1, pr_map (fun _ _ => TupAt.kn k) h2⟩
theorem TupsAt.put {G : Hp} {C : Addr} {xs : List V} {us : List Addr} {es : List ColR} (h : G C = some (.lst xs)) (hp : Paired (TupAt G) us es) : TupsAt (upd G C (.lst (us.map V.ref))) C es := ⟨us, upd_same, pr_map (fun _ _ => TupAt.kn (Kn.put h)) hp⟩
/-- a state: the source, the columns, the table of them -/
structure W3 (CC CT : Addr) (H0 : Hp) (a : Addr) (n : Nat) (L p : Addr) (cs : List ColR) (G : Hp) : Prop where
  src : Src G a n
  la : L ≠ a
  l0 : H0 L = none
  bas : Bas H0 a G
  tab : TabAt CC CT G p cs
  cols : TupsAt G L cs
theorem W3.keep {CC CT : Addr} {H0 G G' : Hp} {a L p : Addr} {n m : Nat} {cs : List ColR} (w : W3 CC CT H0 a n L p cs G) (k : Keep a G G') (s : Src G' a m) : W3 CC CT H0 a m L p cs G' :=
  ⟨s, w.la, w.l0, w.bas.keep k, w.tab.kn (Kn.keep w.src k), w.cols.kn (Kn.keep w.src k) fun _ h => k _ _ w.la h⟩
theorem W3.same {CC CT : Addr} {H0 G G' : Hp} {a L p : Addr} {n : Nat} {cs : List ColR} (w : W3 CC CT H0 a n L p cs G) (k : Same G G') : W3 CC CT H0 a n L p cs G' := w.keep (Keep.of_same k) (w.src.same k)
theorem W3.put {CC CT : Addr} {H0 G : Hp} {a L p M : Addr} {n : Nat} {cs : List ColR} {xs : List V} {o : HO} (w : W3 CC CT H0 a n L p cs G) (h : G M = some (.lst xs)) (Ma : M ≠ a) (ML : M ≠ L) (M0 : H0 M = none) : W3 CC CT H0 a n L p cs (upd G M o) :=
  ⟨w.src.set Ma, w.la, w.l0, w.bas.set M0, w.tab.kn (Kn.put h), w.cols.kn (Kn.put h) fun _ e => by rw [upd_ne ML.symm]; exact e⟩
/-- a name that is not there -/
def Oth (cs : List ColR) (H : Hp) (v : V) : Prop := Et.Pw H v ∧ inN cs v = false ∧ ∃ d, Sh H v d ∧ Tells d
theorem box_same {H G : Hp} {p : Addr} (s : Same H G) (h : Iw.Box H p) : Iw.Box G p := by
  cases h with
  | lst h => exact .lst (s _ _ h)
  | tup h => exact .tup (s _ _ h)
  | dic h => exact .dic (s _ _ h)
theorem Oth.same {cs : List ColR} {H G : Hp} {v : V} (s : Same H G) (h : Oth cs H v) : Oth cs G v := by
  obtain ⟨h1, h2, d, h3, h4⟩ := h
  refine ⟨?_, h2, d, h3.same s, h4⟩
  cases h1 with
  | str z => exact .str z
  | non => exact .non
  | int i => exact .int i
  | bl b => exact .bl b
  | box b => exact .box (box_same s b)
theorem oth_word {cs : List ColR} {H : Hp} {z : Str} (hz : IsWord z) (no : z ∉ cs.map ColR.n) : Oth cs H (.str z) := ⟨.str z, by rw [inN_of]; exact decide_eq_false no, _, .fl (.str z), word_tells hz⟩
theorem oth_odd {cs : List ColR} {H : Hp} {a : Addr} {v : V} (gc : GoodC cs) (h : OddV a H v) : Oth cs H v := by
  obtain ⟨_, d, hd, hs⟩ := h
  refine ⟨odd_pw hs, ?_, d, hs, odd_tells hd⟩
  unfold inN
  rw [List.any_eq_false]
  intro c hc
  rw [odd_not hd hs (gc.w c hc).1 (gc.w c hc).2]
  exact Bool.false_ne_true
/-- if c: s; then the rest, for both -/
theorem sq_ifk {c : TT} {t1 u : TS} {D : Ends} {σ : L2.St} {H : Hp} (P : Bool → Hp → Prop) (P2 : L2.St → Hp → Prop) (h : ∀ Q : Bool → Hp → Prop, (∀ b H', P b H' → Q b H') → c σ H Q) (kt : ∀ H', P true H' → ∀ N : L2.St → Hp → Prop, (∀ τ H2, P2 τ H2 → N τ H2) → t1 { D with nx := N } σ H')
    (kf : ∀ H', P false H' → P2 σ H') (rest : ∀ τ H2, P2 τ H2 → u D τ H2) : tSeq (tIfS c t1 tNext) u D σ H := sq_if1 P h (fun H' p => kt H' p (u D) rest) (fun H' p => rest σ H' (kf H' p))
theorem good_rev {cs : List ColR} (h : GoodC cs) : GoodC cs.reverse := ⟨by rw [List.map_reverse]; exact (List.reverse_perm _).nodup_iff.mpr h.nd, by rw [List.length_reverse]; exact h.lo, by rw [List.length_reverse]; exact h.hi, fun c m => h.w c (List.mem_reverse.mp m)⟩
theorem pr_rev {α β : Type} {R : α → β → Prop} : ∀ {xs : List α} {ys : List β}, Paired R xs ys → Paired R xs.reverse ys.reverse
  | _, _, .nil => .nil
  | _, _, .cons a r => by
    rw [List.reverse_cons, List.reverse_cons]
    exact pr_snoc (pr_rev r) a
theorem pr_erase {α β : Type} {R : α → β → Prop} : ∀ {xs : List α} {ys : List β} (i : Nat), Paired R xs ys → Paired R (xs.eraseIdx i) (ys.eraseIdx i)
  | _, _, _, .nil => .nil
  | _, _, 0, .cons _ r => r
  | _, _, i + 1, .cons a r => .cons a (pr_erase i r)
theorem pr_set {α β : Type} {R : α → β → Prop} {x : α} {y : β} (h : R x y) : ∀ {xs : List α} {ys : List β} (i : Nat), Paired R xs ys → Paired R (xs.set i x) (ys.set i y)
  | _, _, _, .nil => .nil
  | _, _, 0, .cons _ r => .cons h r
  | _, _, i + 1, .cons a r => .cons a (pr_set h i r)
theorem map_erase {α β : Type} (f : α → β) : ∀ (xs : List α) (i : Nat), (xs.map f).eraseIdx i = (xs.eraseIdx i).map f
  | [], _ => rfl
  | _ :: _, 0 => rfl
  | a :: r, i + 1 => by
    show f a :: (r.map f).eraseIdx i = f a :: (r.eraseIdx i).map f
    rw [map_erase f r i]
theorem pr_take {α β : Type} {R : α → β → Prop} : ∀ {xs : List α} {ys : List β} (i : Nat), Paired R xs ys → Paired R (xs.take i) (ys.take i)
  | _, _, 0, _ => .nil
  | _, _, _ + 1, .nil => .nil
  | _, _, i + 1, .cons a r => .cons a (pr_take i r)
theorem good_sub {cs ds : List ColR} (h : GoodC cs) (s : ds.Sublist cs) (lo : 1 ≤ ds.length) : GoodC ds := ⟨(s.map ColR.n).nodup h.nd, lo, Nat.le_trans s.length_le h.hi, fun c m => h.w c (s.subset m)⟩
theorem good_erase {cs : List ColR} {i : Nat} (h : GoodC cs) (l : 2 ≤ cs.length) : GoodC (cs.eraseIdx i) := good_sub h (List.eraseIdx_sublist _ _) (by rw [List.length_eraseIdx]; split <;> omega)
theorem good_set {cs : List ColR} {i : Nat} {c d : ColR} (h : GoodC cs) (e : cs[i]? = some c) (n : d.n = c.n) : GoodC (cs.set i d) := by
  have hi := (List.getElem?_eq_some_iff.mp e).1
  refine ⟨?_, by rw [List.length_set]; exact h.lo, by rw [List.length_set]; exact h.hi, fun x m => ?_⟩
  · have q : (cs.set i d).map ColR.n = cs.map ColR.n := by
      rw [List.map_set, n]
      refine List.ext_getElem? fun j => ?_
      rw [List.getElem?_set, List.getElem?_map]
      by_cases ij : i = j
      · subst ij
        rw [if_pos rfl, if_pos (by rw [List.length_map]; exact hi), e]
        rfl
      · rw [if_neg ij]
    rw [q]
    exact h.nd
  · rcases List.mem_or_eq_of_mem_set m with m | rfl
    · exact h.w x m
    · rw [n]
      exact h.w c (List.mem_of_getElem? e)
/-- .. and the changed columns, and the names -/
structure Z3 (CC CT : Addr) (H0 : Hp) (a : Addr) (n : Nat) (L p N C : Addr) (cs ds : List ColR) (G : Hp) : Prop where
  w : W3 CC CT H0 a n L p cs G
  ch : TupsAt G C ds
  g : GoodC ds
  nm : G N = some (.lst (nmsV cs))
  Na : N ≠ a
  Ca : C ≠ a
  CL : C ≠ L
  CN : C ≠ N
  C0 : H0 C = none
theorem Z3.keep {CC CT : Addr} {H0 G G' : Hp} {a L p N C : Addr} {n m : Nat} {cs ds : List ColR} (z : Z3 CC CT H0 a n L p N C cs ds G) (k : Keep a G G') (s : Src G' a m) : Z3 CC CT H0 a m L p N C cs ds G' :=
  ⟨z.w.keep k s, z.ch.kn (Kn.keep z.w.src k) fun _ h => k _ _ z.Ca h, z.g, k _ _ z.Na z.nm, z.Na, z.Ca, z.CL, z.CN, z.C0⟩
theorem Z3.same {CC CT : Addr} {H0 G G' : Hp} {a L p N C : Addr} {n : Nat} {cs ds : List ColR} (z : Z3 CC CT H0 a n L p N C cs ds G) (k : Same G G') : Z3 CC CT H0 a n L p N C cs ds G' := z.keep (Keep.of_same k) (z.w.src.same k)
theorem Z3.put {CC CT : Addr} {H0 G : Hp} {a L p N C : Addr} {n : Nat} {cs ds es : List ColR} {xs : List V} {us : List Addr} (z : Z3 CC CT H0 a n L p N C cs ds G) (h : G C = some (.lst xs)) (hp : Paired (TupAt G) us es) (g : GoodC es) : Z3 CC CT H0 a n L p N C cs es (upd G C (.lst (us.map V.ref))) :=
  ⟨z.w.put h z.Ca z.CL z.C0, TupsAt.put h hp, g, by rw [upd_ne z.CN.symm]; exact z.nm, z.Na, z.Ca, z.CL, z.CN, z.C0⟩
structure Cals03 (P : Program) (w : World) (K : PySem.W.Frag) (mg : Str → Option Value) (base : Heap) (CC CT CN fI : Addr) (fdI : FuncData) : Prop where
  source : Cal P w K mg base CX0 "_law_source" 1 ["script", "place"] (spSource K)
  draw : Cal P w K mg base CX0 "_law_draw" 1 ["source", "many"] spDraw
  of : Cal P w K mg base CX0 "_law_of" 2 ["source", "some"] (spOf K)
  word : Cal P w K mg base CX0 "_law_word" 2 ["source", "taken"] (spWord K)
  odd : Cal P w K mg base CX0 "_law_odd" 3 ["source"] spOdd2
  cols : Cal P w K mg base CX0 "_law_columns" 3 ["source", "many"] spCols
  tabm : Cal P w K mg base CX0 "_law_table" 4 ["columns"] (spTabM CC CT)
  tells : Cal P w K mg base CX0 "_law_tells" 6 ["table", "columns"] (spTells CC CT)
  missing : CalG P w K mg base CX0 "_law_missing" 6 ["table", "name"] (spMissing CC CT)
  M : ColM P w K mg base CC fI fdI
  F : TabF P w K mg base CC CT CN
  C : TxtC K mg CC CT
  T : TxtTb K mg CC CT
  ne : CT ≠ CC
  mkT : ∃ fT fdT, Mk K CT fT ∧ FnOk P w K mg base CX0 1 fT fdT ["self", "columns"] (spTabG CC CT) ∧ Binds K fdT ["self", "columns"] []
  eqt : ∃ f fd, Oq.EqC K CT f ∧ FnOk P w K mg base CX0 3 f fd ["self", "other"] (spTabE K CC CT) ∧ Binds K fd ["self", "other"] []
  con : ∃ g fd, Oc.InC K CT g ∧ FnOk P w K mg base CX0 1 g fd ["self", "x"] (spTabIn CC CT) ∧ Binds K fd ["self", "x"] []
  ofc : ∃ pc g, ClX.CMet K CT (.type "type") "of" pc g ∧ FnR P w K mg base (L2N.CX P w) 3 g (spOfG CC CT)
  nf : PySem.W.notFirst K CT (.ref CT) = true
  nfL : PySem.W.notFirst K CT (.type "list") = true
  nfN : PySem.W.notFirst K CT (.type "NoneType") = true
  noL : PySem.W.kitOne K (.type "list") (.ref CT) = some false
  noN : PySem.W.kitOne K (.type "NoneType") (.ref CT) = some false
  list : mg "list" = none
  range : mg "range" = none
  max : mg "max" = none
  min : mg "min" = none
  len : mg "len" = none
def spLaw (K : PySem.W.Frag) : Sp := fun vs H Q _ => ∃ (a : Addr) (ns : List Int), vs = [.ref a] ∧ SqL K H a (ns.map V.int) ∧ ns.length ≤ 63 ∧ ∀ H', Q (.bl true) H'
abbrev nLaw : List Str := ["script", "place", "source", "columns", "made", "table", "first", "names", "other", "kind", "changed", "at", "name", "large", "fixed", "empty", "turned", "second", "parts", "third", "one"]
theorem scLaw : FnScope nLaw ["script"] (defScope sLaw) := ⟨rfl, rfl, rfl, by decide +kernel, rfl, by decide +kernel, by decide +kernel⟩
theorem ok_law {CC CT CN fI f : Addr} {fdI fd : FuncData} (F : FnP K "law" sLaw f fd) (c : Cals03 P w K mg base CC CT CN fI fdI) : FnG P w K mg base CX0 7 f fd ["script"] (spLaw K) := by
  obtain ⟨m3, b3⟩ := col_b3 c.M.D
  obtain ⟨fT, fdT, MT, FT, bT⟩ := c.mkT
  obtain ⟨fE, fdE, EQ, FE, bE⟩ := c.eqt
  obtain ⟨gI, fdC, WI, FI, bI⟩ := c.con
  obtain ⟨pc, gO, CO, FO⟩ := c.ofc
  obtain ⟨uk, hkey⟩ := c.C.key
  obtain ⟨um, hmost⟩ := c.T.most
  refine okG F scLaw (fun vs H Q E h => ?_) (fun cdv A outer s0 H vs Q E gd hr h => ?_)
  · obtain ⟨a, ns, rfl, _⟩ := h
    rfl
  · obtain ⟨a, ns, rfl, hS, hlen, k⟩ := h
    have nd := scLaw.nd
    have h1 : Room 1 _ := hr.mono (by decide)
    have h2 : Room 2 _ := hr.mono (by decide)
    have h3 : Room 3 _ := hr.mono (by decide)
    have h4 : Room 4 _ := hr.mono (by decide)
    refine ⟨_, PSs.nox (pss_cons (ps_if (PW.pt (pw_or (pt_cmpR op_ne (ClX.pe_cval (by exact pe_glob (v := .ref CT) rfl c.C.gT rfl)) pe_str (nomark _)) (pw_or1 (pt_cmpR op_ne (ClX.pe_cval (by exact pe_glob (v := .ref CT) rfl c.C.gT rfl)) pe_int (nomark _))))) (pss_one (ps_ret pe_bl)) pss_nil)
      (pss_cons (ps_for PassesOwn.never rfl (pi_range1 rfl c.range (pa_cons (pe_callB (call_max2 rfl) (by rfl) c.max (by decide +kernel) (pa_cons pe_int (pa_cons (pe_callB (call_min2 rfl) (by rfl) c.min (by decide +kernel) (pa_cons pe_int (pa_cons (pe_callB call_len_seq (by rfl) c.len PySem.boot_len (pa_cons (pv 0) pa_nil)) pa_nil))) pa_nil))) pa_nil)) (pg_name (i := 1) nd rfl (Or.inl rfl)) (pss_cons (ps_set (i := 2) nd rfl (Or.inl rfl) (pe_cal c.source h1 (pa_cons (pv 0) (pa_cons (pv 1) pa_nil))))
      (pss_cons (ps_set (i := 3) nd rfl (Or.inl rfl) (pe_cal c.cols h3 (pa_cons (pv 2) (pa_cons (pe_op op_add pe_int (pe_cal c.draw h1 (pa_cons (pv 2) (pa_cons pe_int pa_nil)))) pa_nil))))
      (pss_cons (ps_setLc (i := 4) (own := [("name", 12), ("large", 13), ("fixed", 14), ("empty", 15)]) (g := gTup K 4 (gCons (gName 12) (gCons (gName 13) (gCons (gName 14) (gCons (gName 15) gNil))))) (tt := tYes) rfl nd rfl rfl (sw_true rfl rfl rfl (by decide +kernel)) (pi_list (pv 3)) (blkOk_by (N := nLaw) (sc := defScope sLaw) (by decide +kernel)) (fun _ _ _ _ _ => pg_tup (by rfl) (pgs_cons (pg_name (i := 12) nd rfl (Or.inl rfl)) (pgs_cons (pg_name (i := 13) nd rfl (Or.inl rfl)) (pgs_cons (pg_name (i := 14) nd rfl (Or.inl rfl)) (pgs_cons (pg_name (i := 15) nd rfl (Or.inl rfl)) pgs_nil))))) (fun _ _ _ _ _ => pts_nil) (fun _ _ _ _ _ => pe_makeK c.M.M c.M.F h3 (by rfl) c.M.gC b3 pass0 (pa_cons (pv 12) pa_nil) (pk_cons (pv 13) (pk_cons (pv 14) (pk_cons (pv 15) pk_nil)))))
      (pss_cons (ps_par (i := 5) (j := 6) (by rfl) nd rfl rfl (by decide) rfl rfl (pa_cons (pe_make MT FT h2 rfl c.C.gT bT .nil pass0 (pa_cons (pv 4) pa_nil)) (pa_cons (pe_ix (r := rIxL K) (by exact ix_list) (pv 4) pe_int (fun _ _ => rfl)) pa_nil)) (by rfl))
      (pss_cons (ps_expr (pe_bm0 PySem.F.plainAttrs_list PySem.F.slot_list_pop PySem.F.type_list_pop mt_pop (pv 4)))
      (pss_cons (ps_expr (pe_bm PySem.F.plainAttrs_list PySem.F.slot_list_insert PySem.F.type_list_insert mt_insert (pv 4) (pa_cons pe_int (pa_cons (pv 6) pa_nil))))
      (pss_cons (ps_if (pt_not (pt_val (pe_cal c.tells hr (pa_cons (pv 5) (pa_cons (pv 3) pa_nil))))) (pss_one (ps_ret pe_bl)) pss_nil)
      (pss_cons (ps_setLc (i := 7) (own := [("one", 20)]) (g := (gName 20)) (tt := tYes) rfl nd rfl rfl (sw_true rfl rfl rfl (by decide +kernel)) (pi_list (pv 3)) (blkOk_by (N := nLaw) (sc := defScope sLaw) (by decide +kernel)) (fun _ _ _ _ _ => pg_name (i := 20) nd rfl (Or.inl rfl)) (fun _ _ _ _ _ => pts_nil) (fun _ _ _ _ _ => (pe_ix (r := rIxT K) (by exact ix_tup) (pv 20) pe_int (fun _ _ => rfl))))
      (pss_cons (ps_for PassesOwn.never rfl (pi_list (pe_lst (pa_cons (pe_cal c.word h2 (pa_cons (pv 2) (pa_cons (pe_op op_cat (pe_lst (pa_cons pe_str pa_nil)) (pv 7)) pa_nil))) (pa_cons (pe_cal c.odd h3 (pa_cons (pv 2) pa_nil)) (pa_cons pe_str pa_nil))))) (pg_name (i := 8) nd rfl (Or.inl rfl)) (pss_one (ps_if (PW.pt (pw_or (pt_cmpR (r := Oc.rIn CT (spTabIn CC CT) id) (by exact Oc.op_inO WI FI bI h1) (pv 8) (pv 5) (by rfl)) (pw_or1 (pt_not (pt_val (pe_calG c.missing gd hr (pa_cons (pv 5) (pa_cons (pv 8) pa_nil)))))))) (pss_one (ps_ret pe_bl)) pss_nil)))
      (pss_cons (ps_par (i := 9) (j := 10) (by rfl) nd rfl rfl (by decide) rfl rfl (pa_cons (pe_cal c.draw h1 (pa_cons (pv 2) (pa_cons pe_int pa_nil))) (pa_cons (pe_callTy call_list_of (by rfl) c.list (by decide +kernel) (pa_cons (pv 3) pa_nil)) pa_nil)) (by rfl))
      (pss_cons (ps_if (pt_cmpR op_eq (pv 9) pe_int (nomark _)) (pss_one (ps_expr (pe_bm0 PySem.F.plainAttrs_list PySem.F.slot_list_reverse PySem.F.type_list_reverse mt_reverse (pv 10)))) pss_nil)
      (pss_cons (ps_if (PW.pt (pw_and (pt_cmpR op_eq (pv 9) pe_int (nomark _)) (pw_and1 (pt_cmpR op_gt (pe_callB call_len_seq (by rfl) c.len PySem.boot_len (pa_cons (pv 3) pa_nil)) pe_int (nomark _))))) (pss_one (ps_expr (pe_bm PySem.F.plainAttrs_list PySem.F.slot_list_pop PySem.F.type_list_pop mt_popAt (pv 10) (pa_cons (pe_cal c.draw h1 (pa_cons (pv 2) (pa_cons (pe_callB call_len_seq (by rfl) c.len PySem.boot_len (pa_cons (pv 3) pa_nil)) pa_nil))) pa_nil)))) pss_nil)
      (pss_cons (ps_if (pt_cmpR op_eq (pv 9) pe_int (nomark _)) (pss_cons (ps_set (i := 11) nd rfl (Or.inl rfl) (pe_cal c.draw h1 (pa_cons (pv 2) (pa_cons (pe_callB call_len_seq (by rfl) c.len PySem.boot_len (pa_cons (pv 3) pa_nil)) pa_nil))))
      (pss_cons (ps_asg (pe_ix (r := rIxL K) (by exact ix_list) (pv 10) (pv 11) (fun _ _ => rfl)) (pg_tup (by rfl) (pgs_cons (pg_name (i := 12) nd rfl (Or.inl rfl)) (pgs_cons (pg_name (i := 13) nd rfl (Or.inl rfl)) (pgs_cons (pg_name (i := 14) nd rfl (Or.inl rfl)) (pgs_cons (pg_name (i := 15) nd rfl (Or.inl rfl)) pgs_nil))))))
      (pss_cons (ps_set (i := 16) nd rfl (Or.inl rfl) (pe_lst (pa_cons (pe_tup (pa_cons (pv 12) (pa_cons (pe_not (pv 13)) (pa_cons (pv 14) (pa_cons (pv 15) pa_nil))))) (pa_cons (pe_tup (pa_cons (pv 12) (pa_cons (pv 13) (pa_cons (pe_not (pv 14)) (pa_cons (pv 15) pa_nil))))) (pa_cons (pe_tup (pa_cons (pv 12) (pa_cons (pv 13) (pa_cons (pv 14) (pa_cons (pe_not (pv 15)) pa_nil))))) pa_nil)))))
      (pss_one (ps_asg (pe_cal c.of h2 (pa_cons (pv 2) (pa_cons (pv 16) pa_nil))) (pg_sub (pv 10) (pv 11) set_list)))))) pss_nil)
      (pss_cons (ps_set (i := 17) nd rfl (Or.inl rfl) (pe_cal c.tabm h4 (pa_cons (pv 10) pa_nil)))
      (pss_cons (ps_if (PW.pt (pw_or (pt_cmpR op_ne (pe_cmpR (r := Oq.rOwn K CT (spTabE K CC CT) id) (by exact Oq.op_eqI EQ FE bE h3) (pv 5) (pv 17) (nomark _)) (pe_cmpR (r := rEqD K) (by exact op_eqD hr.units) (pv 3) (pv 10) (nomark _)) (nomark _)) (pw_or1 (pt_cmpR op_ne (pe_cmpR (r := Oq.rOwn K CT (spTabE K CC CT) Bool.not) (by exact Oq.op_neI EQ FE bE h4) (pv 17) (pv 5) (nomark _)) (pe_cmpR (r := rNeD K) (by exact op_neD hr.units) (pv 3) (pv 10) (nomark _)) (nomark _))))) (pss_one (ps_ret pe_bl)) pss_nil)
      (pss_cons (ps_if (PW.pt (pw_or (pt_not (pt_val (pe_cal c.tells hr (pa_cons (pv 17) (pa_cons (pv 10) pa_nil))))) (pw_or (pt_not (pt_val (pe_cal c.tells hr (pa_cons (pv 5) (pa_cons (pv 3) pa_nil))))) (pw_or (pt_cmpR (r := Oq.rOwn K CT (spTabE K CC CT) id) (by exact Oq.op_eqI EQ FE bE h3) (pv 5) (pv 7) (nomark _)) (pw_or1 (pt_cmpR (r := Oq.rOwn K CT (spTabE K CC CT) id) (by exact Oq.op_eqI EQ FE bE h3) (pv 5) pe_non (nomark _))))))) (pss_one (ps_ret pe_bl)) pss_nil)
      (pss_cons (ps_setLc (i := 18) (own := [("name", 12), ("large", 13), ("fixed", 14), ("empty", 15)]) (g := gTup K 4 (gCons (gName 12) (gCons (gName 13) (gCons (gName 14) (gCons (gName 15) gNil))))) (tt := tYes) rfl nd rfl rfl (sw_true rfl rfl rfl (by decide +kernel)) (pi_list (pv 3)) (blkOk_by (N := nLaw) (sc := defScope sLaw) (by decide +kernel)) (fun _ _ _ _ _ => pg_tup (by rfl) (pgs_cons (pg_name (i := 12) nd rfl (Or.inl rfl)) (pgs_cons (pg_name (i := 13) nd rfl (Or.inl rfl)) (pgs_cons (pg_name (i := 14) nd rfl (Or.inl rfl)) (pgs_cons (pg_name (i := 15) nd rfl (Or.inl rfl)) pgs_nil))))) (fun _ _ _ _ _ => pts_nil) (fun _ _ _ _ _ => pe_makeK c.M.M c.M.F h3 (by rfl) c.M.gC b3 pass0 (pa_cons (pv 12) pa_nil) (pk_cons (pv 13) (pk_cons (pv 14) (pk_cons (pv 15) pk_nil)))))
      (pss_cons (ps_set (i := 19) nd rfl (Or.inl rfl) (ClX.pe_cmeth (by exact pe_glob (v := .ref CT) rfl c.C.gT rfl) c.C.rd CO FO h3 pass_no (pa_cons (pe_ix (r := rIxL K) (by exact ix_list) (pv 18) pe_int (fun _ _ => rfl)) pa_nil)))
      (pss_cons (ps_if (pt_cmpR op_eq (pe_callB call_len_seq (by rfl) c.len PySem.boot_len (pa_cons (pv 18) pa_nil)) pe_int (nomark _)) (pss_one (ps_set (i := 19) nd rfl (Or.inl rfl) (ClX.pe_cmeth (by exact pe_glob (v := .ref CT) rfl c.C.gT rfl) c.C.rd CO FO h3 pass_no (pa_cons (pe_ix (r := rIxL K) (by exact ix_list) (pv 18) pe_int (fun _ _ => rfl)) (pa_cons (pe_ix (r := rIxL K) (by exact ix_list) (pv 18) pe_int (fun _ _ => rfl)) pa_nil))))) pss_nil)
      (pss_cons (ps_if (pt_cmpR op_eq (pe_callB call_len_seq (by rfl) c.len PySem.boot_len (pa_cons (pv 18) pa_nil)) pe_int (nomark _)) (pss_one (ps_set (i := 19) nd rfl (Or.inl rfl) (ClX.pe_cmeth (by exact pe_glob (v := .ref CT) rfl c.C.gT rfl) c.C.rd CO FO h3 pass_no (pa_cons (pe_ix (r := rIxL K) (by exact ix_list) (pv 18) pe_int (fun _ _ => rfl)) (pa_cons (pe_ix (r := rIxL K) (by exact ix_list) (pv 18) pe_int (fun _ _ => rfl)) (pa_cons (pe_ix (r := rIxL K) (by exact ix_list) (pv 18) pe_int (fun _ _ => rfl)) pa_nil)))))) pss_nil)
      (pss_one (ps_if (PW.pt (pw_or (pt_not (pt_val (pe_callB call_isi (by rfl) c.C.isi (by decide +kernel) (pa_cons (pv 19) (pa_cons (pe_glob (v := .ref CT) rfl c.C.gT rfl) pa_nil))))) (pw_or (pt_cmpR (r := Oq.rOwn K CT (spTabE K CC CT) Bool.not) (by exact Oq.op_neI EQ FE bE h4) (pv 19) (pv 5) (nomark _)) (pw_or1 (pt_not (pt_val (pe_cal c.tells hr (pa_cons (pv 19) (pa_cons (pv 3) pa_nil))))))))) (pss_one (ps_ret pe_bl)) pss_nil)))))))))))))))))))))))
      (pss_one (ps_ret pe_bl)))), ?_⟩
    refine sq_if1 (fun b' H1 => H = H1 ∧ b' = false) (fun Q q => ?_) ?_ ?_
    · exact ⟨CT, _, _, uk, rfl, c.C.rd, hkey, rfl, _, rfl, itFb (by simp) ⟨CT, _, _, um, rfl, c.C.rd, hmost, rfl, _, rfl, q _ _ ⟨rfl, by simp⟩⟩⟩
    · rintro _ ⟨_, e⟩
      cases e
    rintro _ ⟨rfl, _⟩
    have hb : ∀ L : Int, 0 ≤ L → 1 ≤ (if (if L < 30 then L else 30) > 1 then (if L < 30 then L else 30) else 1) ∧ (if (if L < 30 then L else 30) > 1 then (if L < 30 then L else 30) else 1) ≤ 30 := fun L h => by split <;> split <;> omega
    have hb2 := hb (((ns.map V.int).length : Nat) : Int) (by omega)
    have h9 : sizeLine = 16777216 := by decide
    refine ⟨_, rfl, a, _, rfl, .inl hS, _, _, rfl, _, _, rfl, _, rfl, by omega, by omega, ?_⟩
    refine for_range (lo := 0) (fun j σ H' => ∃ v1 v2 v3 v4 v5 v6 v7 v8 v9 v10 v11 v12 v13 v14 v15 v16 v17 v18 v19 v20 : Option V, σ = [some (.ref a), v1, v2, v3, v4, v5, v6, v7, v8, v9, v10, v11, v12, v13, v14, v15, v16, v17, v18, v19, v20] ∧ Same H H') ⟨_, _, _, _, _, _, _, _, _, _, _, _, _, _, _, _, _, _, _, _, rfl, Same.refl H⟩ ?_ ?_
    · rintro j σ H' hj ⟨v1, v2, v3, v4, v5, v6, v7, v8, v9, v10, v11, v12, v13, v14, v15, v16, v17, v18, v19, v20, rfl, sH⟩
      have hj2 : (j : Int) < 30 := by omega
      refine g_name ?_
      refine sq_set (fun x H1 => ∃ p, x = .ref p ∧ Bas H p H1 ∧ Src H1 p 0) (fun Q q => ?_) ?_
      · refine ⟨_, rfl, _, rfl, a, ns, _, rfl, sH.seq hS, by omega, by omega, by omega, fun p H1 np s1 hs => q _ _ ⟨p, rfl, fun b o e => ⟨ne_of_none (sH b o e) np, s1 b o (sH b o e)⟩, hs⟩⟩
      rintro _ H1 ⟨p, rfl, B1, S1⟩
      refine sq_set (fun x G => ∃ (L : Addr) (cs : List ColR), x = .ref L ∧ L ≠ p ∧ H L = none ∧ Bas H p G ∧ Src G p 41 ∧ TupsAt G L cs ∧ GoodC cs) (fun Q q => ?_) ?_
      · refine ⟨_, rfl, _, rfl, p, _, _, rfl, S1, by omega, by decide, by decide, fun G2 m k2 s2 m0 m3 => ⟨_, _, rfl, rfl, p, _, _, rfl, s2, by omega, by omega, by omega, fun L G3 cs k3 s3 Lp nL tl hl gc => ?_⟩⟩
        have B2 := B1.keep k2
        exact q _ _ ⟨L, cs, rfl, Lp, B2.new nL, B2.keep k3, s3, tl, gc⟩
      rintro _ G0 ⟨L, cs, rfl, Lp, L0, B0, S0, tl0, gc⟩
      have wc : ∀ c ∈ cs, IsWord c.n := fun c h => (gc.w c h).1
      obtain ⟨ts, hL, pt⟩ := id tl0
      have lt := pr_len pt
      refine sq_set (fun x G => ∃ (M : Addr) (ps : List Addr), x = .ref M ∧ G0 M = none ∧ G M = some (.lst (ps.map V.ref)) ∧ Paired (ColAt CC G) ps cs ∧ Same G0 G) (fun Q q => ?_) ?_
      · refine ⟨_, rfl, L, rfl, ⟨_, SqL.of hL⟩, fun D nD => ?_⟩
        refine lc_list (xs := ts.map V.ref) (fun j G => NewCols CC G0 G D (cs.take j)) ⟨[], upd_same, .nil, Lw.Same.new (Same.refl G0) nD⟩ (fun j G _ ⟨_, _, _, s⟩ => SqL.of (s _ _ hL)) ?_ ?_
        · rintro j x G hx hN
          rw [List.getElem?_map] at hx
          obtain ⟨t, ht, rfl⟩ := Option.map_eq_some_iff.mp hx
          have jl : j < cs.length := by rw [← pr_len pt]; exact (List.getElem?_eq_some_iff.mp ht).1
          have ec : cs[j]? = some cs[j] := List.getElem?_eq_getElem jl
          have tt := pr_at pt ht ec
          have sG := hN.choose_spec.2.2
          have wcj := gc.w _ (List.mem_of_getElem? ec)
          refine ⟨t, _, rfl, SqT.of (sG _ _ tt), rfl, _, _, rfl, _, _, rfl, _, _, rfl, _, _, rfl, rfl, rfl, _, rfl, _, rfl, _, rfl, _, rfl, rfl, rfl, ?_⟩
          refine col_new (c := cs[j]) wcj.1 wcj.2 fun x G2 s2 nx hc => ?_
          obtain ⟨acc, a1, a2, a3⟩ := new_step hN nD s2 hc (by rw [List.length_take]; have := gc.hi; omega)
          refine ⟨acc, a1, a2, ?_⟩
          rw [show cs.take (j + 1) = cs.take j ++ [cs[j]] from by rw [List.take_succ, ec]; rfl]
          exact a3
        · rintro G hN
          rw [List.length_map, pr_len pt, List.take_length] at hN
          obtain ⟨ps, g1, g3, sG⟩ := hN
          exact q _ _ ⟨D, ps, rfl, nD, g1, g3, sG⟩
      rintro _ G1 ⟨M, ps, rfl, nM, gM, pc, s01⟩
      have S1' := S0.same s01
      have Mp : M ≠ p := S0.ne nM
      have ML : M ≠ L := (ne_of_none hL nM).symm
      have M0 := B0.new nM
      have lps := pr_len pc
      obtain ⟨p0, e0⟩ : ∃ p0, ps[0]? = some p0 := ⟨ps[0]'(by rw [lps]; exact gc.lo), List.getElem?_eq_getElem _⟩
      refine sq_par (fun x y G => ∃ q, x = .ref q ∧ y = .ref p0 ∧ TabAt CC CT G q cs ∧ Same G1 G) (fun Q q => ?_) ?_
      · refine ⟨_, rfl, tab_new gM pc gc c.ne fun q' G2 s2 n2 tb => ?_⟩
        exact ⟨_, rfl, M, _, 0, .ref p0, rfl, rfl, SqL.of (s2 _ _ gM), (by exact atI_nat (j := 0) (by rw [List.getElem?_map, e0]; rfl)), q _ _ _ ⟨q', rfl, rfl, tb, s2⟩⟩
      rintro _ _ G2 ⟨q, rfl, rfl, tb2, s12⟩
      have W2 : W3 CC CT H p 41 L q cs G2 := ⟨S1'.same s12, Lp, L0, (B0.keep (Keep.of_same s01)).keep (Keep.of_same s12), tb2, tl0.same (s01.trans s12)⟩
      have gM2 := s12 _ _ gM
      refine sq_do (fun x G => W3 CC CT H p 41 L q cs G ∧ ∃ xs : List V, G M = some (.lst xs) ∧ xs.length ≤ 3) (fun Q q' => ?_) ?_
      · refine ⟨_, rfl, .inl ⟨rfl, _, SqL.of gM2⟩, M, _, _, rfl, rfl, gM2, List.getElem?_eq_getElem (by rw [List.length_map, lps]; have := gc.lo; omega), q' _ _ ⟨W2.put gM2 Mp ML M0, _, upd_same, ?_⟩⟩
        rw [List.length_dropLast, List.length_map, lps]
        have := gc.hi
        omega
      rintro _ G3 ⟨W3', xs, gM3, lx⟩
      refine sq_do (fun x G => W3 CC CT H p 41 L q cs G) (fun Q q' => ⟨_, rfl, .inl ⟨rfl, _, SqL.of gM3⟩, _, rfl, M, xs, 0, _, rfl, rfl, gM3, by omega, by decide, by decide, q' _ _ (W3'.put gM3 Mp ML M0)⟩) ?_
      rintro _ G4 W4
      refine sq_if1 (fun b' G => b' = false ∧ W3 CC CT H p 41 L q cs G) (fun Q q' => ?_) ?_ ?_
      · refine ⟨_, rfl, _, rfl, q, L, cs, rfl, W4.tab, W4.cols, gc, fun G s => ⟨_, rfl, q' _ _ ⟨rfl, W4.same s⟩⟩⟩
      · rintro _ ⟨e, _⟩
        cases e
      rintro G5 ⟨_, W5⟩
      refine sq_set (fun x G => ∃ N, x = .ref N ∧ N ≠ p ∧ H N = none ∧ N ≠ L ∧ W3 CC CT H p 41 L q cs G ∧ G N = some (.lst (nmsV cs))) (fun Q q' => ?_) ?_
      · obtain ⟨us, hL5, pt5⟩ := id W5.cols
        have lu := pr_len pt5
        refine ⟨_, rfl, L, rfl, ⟨_, SqL.of hL5⟩, fun D nD => ?_⟩
        refine lc_list (xs := us.map V.ref) (fun j G => G D = some (.lst ((nmsV cs).take j)) ∧ Same G5 G) ⟨upd_same, Lw.Same.new (Same.refl G5) nD⟩ (fun j G _ h => SqL.of (h.2 _ _ hL5)) ?_ ?_
        · rintro j x G hx ⟨gD, sG⟩
          rw [List.getElem?_map] at hx
          obtain ⟨t, ht, rfl⟩ := Option.map_eq_some_iff.mp hx
          have jl : j < cs.length := by rw [← lu]; exact (List.getElem?_eq_some_iff.mp ht).1
          have ec : cs[j]? = some cs[j] := List.getElem?_eq_getElem jl
          have tt := pr_at pt5 ht ec
          refine ⟨rfl, _, rfl, t, _, 0, .str cs[j].n, rfl, rfl, SqT.of (sG _ _ tt), rfl, _, gD, ?_, ?_, same_at nD sG⟩
          · rw [List.length_take]
            have := gc.hi
            omega
          · rw [upd_same, nms_take ec]
        · rintro G ⟨gD, sG⟩
          rw [List.length_map, lu, ← nms_len cs, List.take_length] at gD
          exact q' _ _ ⟨D, rfl, W5.src.ne nD, W5.bas.new nD, (ne_of_none hL5 nD).symm, W5.same sG, gD⟩
      rintro _ G6 ⟨N, rfl, Np, N0, NL, W6, gN6⟩
      have c3 := gc.hi
      refine ⟨_, rfl, (by show 1 ≤ sizeLine; decide), fun l1 n1 => ⟨_, rfl, l1, N, _, _, rfl, rfl, upd_same, (Lw.Same.new (Same.refl G6) n1) _ _ gN6, by rw [nms_len]; show 1 + cs.length ≤ sizeLine; omega, fun l2 n2 => ?_⟩⟩
      have s1 := Lw.Same.new (o := .lst [.str "key"]) (Same.refl G6) n1
      have s2 := Lw.Same.new (o := .lst ([.str "key"] ++ nmsV cs)) s1 n2
      have W7 := W6.same s2
      have gl2 : (upd (upd G6 l1 (.lst [.str "key"])) l2 (.lst ([.str "key"] ++ nmsV cs))) l2 = some (.lst (((["key"] : List Str) ++ cs.map ColR.n).map V.str)) := by
        rw [upd_same, List.map_append]
        rfl
      refine ⟨p, l2, 41, (["key"] : List Str) ++ cs.map ColR.n, rfl, W7.src, by omega, (W6.same s1).src.ne n2, SqL.of gl2, by rw [List.length_append, List.length_map]; show 1 + cs.length ≤ 25; omega, fun G7 z k7 s7 hz hno => ⟨_, rfl, p, _, rfl, s7, by omega, fun G8 ov k8 s8 hov => ⟨(by show 3 ≤ sizeLine; decide), fun l nl => ?_⟩⟩⟩
      have W8 := (W7.keep k7 s7).keep k8 s8
      have gN8 := k8 _ _ Np (k7 _ _ Np (s2 _ _ gN6))
      have s9 := Lw.Same.new (o := .lst [.str z, ov, .str "key"]) (Same.refl G8) nl
      have o1 : Oth cs G8 (.str z) := oth_word hz fun h => hno (List.mem_append_right _ h)
      have o2 : Oth cs G8 ov := oth_odd gc hov
      have o3 : Oth cs G8 (.str "key") := oth_word ⟨by decide, by decide, by decide⟩ fun h => by
        obtain ⟨c, hc, e⟩ := List.mem_map.mp h
        exact (gc.w c hc).2 e
      refine ⟨l, rfl, ⟨_, SqL.of upd_same⟩, ?_⟩
      have W9 := W8.same s9
      have gN9 := s9 _ _ gN8
      have ol : ∀ v ∈ [V.str z, ov, V.str "key"], Oth cs (upd G8 l (.lst [.str z, ov, .str "key"])) v := fun v hv => by
        simp only [List.mem_cons, List.not_mem_nil, or_false] at hv
        rcases hv with rfl | rfl | rfl
        · exact o1.same s9
        · exact o2.same s9
        · exact o3.same s9
      have gl9 : (upd G8 l (.lst [.str z, ov, .str "key"])) l = some (.lst [.str z, ov, .str "key"]) := upd_same
      generalize upd G8 l (.lst [.str z, ov, .str "key"]) = G9 at W9 gN9 ol gl9 ⊢
      refine for_list (xs := [.str z, ov, .str "key"]) (fun i σ G => ∃ v8 : Option V, σ = [some (.ref a), some (.int (0 + (j : Int))), some (.ref p), some (.ref L), some (.ref M), some (.ref q), some (.ref p0), some (.ref N), v8, v9, v10, v11, v12, v13, v14, v15, v16, v17, v18, v19, v20] ∧ Same G9 G)
        ⟨_, rfl, Same.refl _⟩ (fun i σ G _ ⟨_, _, s⟩ => SqL.of (s _ _ gl9)) ?_ ?_
      · rintro i x σ G hx ⟨u8, rfl, sG⟩
        obtain ⟨pw, no, d, hd, td⟩ := (ol x (List.mem_of_getElem? hx)).same sG
        have WG := W9.same sG
        obtain ⟨dx, t, n, qs, g1, g2, g3, g4⟩ := id WG.tab
        refine g_name ?_
        refine s1_if (fun b' G2 => b' = false ∧ Same G G2) (fun Q q' => ?_) ?_ ?_
        · exact ⟨_, rfl, _, rfl, q, dx, _, rfl, g1, q, x, cs, rfl, WG.tab, pw, _, rfl, _, rfl, itFb no ⟨_, rfl, _, rfl, q, x, cs, d, rfl, WG.tab, pw, no, hd, td, fun G2 s => ⟨_, rfl, q' _ _ ⟨rfl, s⟩⟩⟩⟩
        · rintro _ ⟨e, _⟩
          cases e
        · rintro G2 ⟨_, s⟩
          exact ⟨_, rfl, sG.trans s⟩
      rintro σ G10 ⟨u8, rfl, s910⟩
      have W10 := W9.same s910
      have gN10 := s910 _ _ gN9
      dsimp only
      refine sq_par (fun x y G => ∃ (kd : Int) (C : Addr), x = .int kd ∧ y = .ref C ∧ Z3 CC CT H p 53 L q N C cs cs G) (fun Q q' => ?_) ?_
      · refine ⟨_, rfl, p, _, _, rfl, W10.src, by omega, by decide, by decide, fun G kd k s d0 d4 => ?_⟩
        have WG := W10.keep k s
        obtain ⟨us, hLG, ptG⟩ := id WG.cols
        refine ⟨_, rfl, L, _, rfl, .inl (SqL.of hLG), fun C nC => ?_⟩
        have s2 := Lw.Same.new (o := .lst (us.map V.ref)) (Same.refl G) nC
        have gN := k _ _ Np gN10
        exact q' _ _ _ ⟨kd, C, rfl, rfl, WG.same s2, ⟨us, upd_same, pr_map (fun _ _ e => s2 _ _ e) ptG⟩, gc, s2 _ _ gN, Np, s.ne nC, (ne_of_none hLG nC).symm, (ne_of_none gN nC).symm, WG.bas.new nC⟩
      rintro _ _ G11 ⟨kd, C, rfl, rfl, Z11⟩
      refine sq_ifk (fun b' G => G11 = G) (fun τ G => τ = [some (.ref a), some (.int (0 + (j : Int))), some (.ref p), some (.ref L), some (.ref M), some (.ref q), some (.ref p0), some (.ref N), u8, some (.int kd), some (.ref C), v11, v12, v13, v14, v15, v16, v17, v18, v19, v20] ∧ ∃ ds, ds.length = cs.length ∧ Z3 CC CT H p 53 L q N C cs ds G) (fun Q q' => ⟨_, rfl, rfl, _, rfl, q' _ _ rfl⟩) ?_ ?_ ?_
      · rintro _ rfl N' hN
        obtain ⟨us, hC, pC⟩ := id Z11.ch
        refine ⟨_, rfl, .inl ⟨rfl, _, SqL.of hC⟩, C, _, rfl, rfl, hC, hN _ _ ⟨rfl, cs.reverse, List.length_reverse, ?_⟩⟩
        rw [← List.map_reverse]
        exact Z11.put hC (pr_rev pC) (good_rev gc)
      · rintro _ rfl
        exact ⟨rfl, cs, rfl, Z11⟩
      rintro _ G12 ⟨rfl, ds, lds, Z12⟩
      refine sq_ifk (fun b' G => G12 = G ∧ (b' = true → kd = 1 ∧ 1 < cs.length)) (fun τ G => τ = [some (.ref a), some (.int (0 + (j : Int))), some (.ref p), some (.ref L), some (.ref M), some (.ref q), some (.ref p0), some (.ref N), u8, some (.int kd), some (.ref C), v11, v12, v13, v14, v15, v16, v17, v18, v19, v20] ∧ ∃ ds, (kd = 1 ∨ ds.length = cs.length) ∧ Z3 CC CT H p 54 L q N C cs ds G) (fun Q q' => ?_) ?_ ?_ ?_
      · refine ⟨_, rfl, rfl, _, rfl, int_ite (fun e => ?_) (fun _ => q' _ _ ⟨rfl, fun e => by cases e⟩)⟩
        obtain ⟨us, hL12, pL12⟩ := id Z12.w.cols
        refine ⟨_, rfl, L, _, rfl, .inl (SqL.of hL12), _, _, rfl, rfl, _, rfl, q' _ _ ⟨rfl, fun e2 => ⟨e, ?_⟩⟩⟩
        have := of_decide_eq_true e2
        rw [List.length_map, pr_len pL12] at this
        omega
      · rintro _ ⟨rfl, e⟩ N' hN
        obtain ⟨e1, e2⟩ := e rfl
        obtain ⟨us, hC, pC⟩ := id Z12.ch
        obtain ⟨ws, hL12, pL12⟩ := id Z12.w.cols
        have lw := pr_len pL12
        refine ⟨_, rfl, .inl ⟨rfl, _, SqL.of hC⟩, _, rfl, _, rfl, L, _, rfl, .inl (SqL.of hL12), p, _, _, rfl, Z12.w.src, by omega, by rw [List.length_map, lw]; omega, by rw [List.length_map, lw]; omega, fun G i k s i0 i1 => ?_⟩
        rw [List.length_map, lw] at i1
        obtain ⟨i, rfl⟩ := Int.eq_ofNat_of_zero_le i0
        have Z13 := Z12.keep k s
        obtain ⟨us, hC, pC⟩ := id Z13.ch
        have lu := pr_len pC
        have il : i < (us.map V.ref).length := by rw [List.length_map, lu]; omega
        refine ⟨C, _, (i : Nat), i, _, rfl, rfl, hC, by omega, by omega, (ixN_seq (ixN_n il)).1, List.getElem?_eq_getElem il, hN _ _ ⟨rfl, ds.eraseIdx i, .inl e1, ?_⟩⟩
        rw [map_erase]
        exact Z13.put hC (pr_erase i pC) (good_erase Z12.g (by omega))
      · rintro _ ⟨rfl, _⟩
        exact ⟨rfl, ds, .inr lds, Z12.keep (Keep.refl _) (Z12.w.src.mono (by decide))⟩
      rintro _ G13 ⟨rfl, es, les, Z13⟩
      refine sq_ifk (fun b' G => G13 = G ∧ (b' = true → kd = 2)) (fun τ G => ∃ (x11 x12 x13 x14 x15 x16 : Option V) (ds : List ColR), τ = [some (.ref a), some (.int (0 + (j : Int))), some (.ref p), some (.ref L), some (.ref M), some (.ref q), some (.ref p0), some (.ref N), u8, some (.int kd), some (.ref C), x11, x12, x13, x14, x15, x16, v17, v18, v19, v20] ∧ Z3 CC CT H p 56 L q N C cs ds G) (fun Q q' => ?_) ?_ ?_ ?_
      · refine ⟨_, rfl, rfl, _, rfl, q' _ _ ⟨rfl, fun e => V.int.inj (of_decide_eq_true e)⟩⟩
      · rintro _ ⟨rfl, e⟩ N' hN
        have lds : es.length = cs.length := by
          rcases les with e1 | e1
          · have := e rfl
            omega
          · exact e1
        refine sq_set (fun x G => ∃ i : Nat, x = .int (i : Nat) ∧ i < es.length ∧ Z3 CC CT H p 55 L q N C cs es G) (fun Q q' => ?_) ?_
        · obtain ⟨ws, hL13, pL13⟩ := id Z13.w.cols
          have lw := pr_len pL13
          have lo := gc.lo
          refine ⟨_, rfl, _, rfl, L, _, rfl, .inl (SqL.of hL13), p, _, _, rfl, Z13.w.src, by omega, by rw [List.length_map, lw]; omega, by rw [List.length_map, lw]; omega, fun G i k s i0 i1 => ?_⟩
          rw [List.length_map, lw] at i1
          obtain ⟨i, rfl⟩ := Int.eq_ofNat_of_zero_le i0
          exact q' _ _ ⟨i, rfl, by omega, Z13.keep k s⟩
        rintro _ G14 ⟨i, rfl, il, Z14⟩
        obtain ⟨us, hC, pC⟩ := id Z14.ch
        have lu := pr_len pC
        have ec : es[i]? = some es[i] := List.getElem?_eq_getElem il
        have et : us[i]? = some (us[i]'(by rw [lu]; exact il)) := List.getElem?_eq_getElem _
        have tt := pr_at pC et ec
        generalize es[i] = cc at ec tt
        generalize (us[i]'(by rw [lu]; exact il)) = tc at et tt
        refine ⟨_, rfl, _, rfl, C, _, _, _, rfl, rfl, SqL.of hC, atI_nat (by rw [List.getElem?_map, et]; rfl), tc, _, rfl, SqT.of tt, rfl, _, _, rfl, _, _, rfl, _, _, rfl, _, _, rfl, rfl, ?_⟩
        dsimp only
        refine sq_set (fun x G => ∃ T t1 t2 t3 : Addr, x = .ref T ∧ T ≠ p ∧ G T = some (.lst [.ref t1, .ref t2, .ref t3]) ∧ TupAt G t1 ⟨cc.n, !cc.l, cc.f, cc.e⟩ ∧ TupAt G t2 ⟨cc.n, cc.l, !cc.f, cc.e⟩ ∧ TupAt G t3 ⟨cc.n, cc.l, cc.f, !cc.e⟩ ∧ Z3 CC CT H p 55 L q N C cs es G) (fun Q q' => ?_) ?_
        · refine ⟨_, rfl, _, rfl, _, rfl, _, rfl, _, rfl, (by show 4 ≤ sizeLine; decide), fun t1 n1 => ?_⟩
          refine ⟨_, rfl, _, rfl, _, rfl, _, rfl, _, rfl, (by show 4 ≤ sizeLine; decide), fun t2 n2 => ?_⟩
          refine ⟨_, rfl, _, rfl, _, rfl, _, rfl, _, rfl, (by show 4 ≤ sizeLine; decide), fun t3 n3 => ⟨(by show 3 ≤ sizeLine; decide), fun T nT => ?_⟩⟩
          have s1 := Lw.Same.new (o := .tup [.str cc.n, .bl (!cc.l), .bl cc.f, .bl cc.e]) (Same.refl G14) n1
          have s2 := Lw.Same.new (o := .tup [.str cc.n, .bl cc.l, .bl (!cc.f), .bl cc.e]) (Same.refl _) n2
          have s3 := Lw.Same.new (o := .tup [.str cc.n, .bl cc.l, .bl cc.f, .bl (!cc.e)]) (Same.refl _) n3
          have s4 := Lw.Same.new (o := .lst [.ref t1, .ref t2, .ref t3]) (Same.refl _) nT
          have sA := ((s1.trans s2).trans s3).trans s4
          have Z15 := Z14.same sA
          refine q' _ _ ⟨T, t1, t2, t3, rfl, (Z14.w.src.same ((s1.trans s2).trans s3)).ne nT, upd_same, ?_, ?_, ?_, Z15⟩
          · exact s4 _ _ (s3 _ _ (s2 _ _ upd_same))
          · exact s4 _ _ (s3 _ _ upd_same)
          · exact s4 _ _ upd_same
        rintro _ G15 ⟨T, t1, t2, t3, rfl, Tp, gT, g1, g2, g3, Z15⟩
        refine ⟨_, rfl, _, rfl, p, T, _, _, rfl, Z15.w.src, by omega, Tp, SqL.of gT, (fun e => by cases e), (by show 3 ≤ 100000; decide), fun G x k s hx => ?_⟩
        have Z16 := Z15.keep k s
        obtain ⟨us, hC, pC⟩ := id Z16.ch
        have lu := pr_len pC
        have kn := Kn.keep Z15.w.src k
        have pick : ∃ (u : Addr) (d : ColR), x = .ref u ∧ d.n = cc.n ∧ TupAt G u d := by
          simp only [List.mem_cons, List.not_mem_nil, or_false] at hx
          rcases hx with rfl | rfl | rfl
          · exact ⟨t1, ⟨cc.n, !cc.l, cc.f, cc.e⟩, rfl, rfl, g1.kn kn⟩
          · exact ⟨t2, ⟨cc.n, cc.l, !cc.f, cc.e⟩, rfl, rfl, g2.kn kn⟩
          · exact ⟨t3, ⟨cc.n, cc.l, cc.f, !cc.e⟩, rfl, rfl, g3.kn kn⟩
        obtain ⟨u, d, rfl, dn, hu⟩ := pick
        refine ⟨_, rfl, _, rfl, C, _, _, i, rfl, rfl, hC, ixN_n (by rw [List.length_map, lu]; exact il), hN _ _ ⟨_, _, _, _, _, _, es.set i d, rfl, ?_⟩⟩
        rw [← List.map_set]
        exact Z16.put hC (pr_set hu i pC) (good_set Z16.g ec dn)
      · rintro _ ⟨rfl, _⟩
        exact ⟨_, _, _, _, _, _, es, rfl, Z13.keep (Keep.refl _) (Z13.w.src.mono (by decide))⟩
      rintro _ G16 ⟨x11, x12, x13, x14, x15, x16, ds, rfl, Z16⟩
      refine sq_set (fun x G => ∃ s : Addr, x = .ref s ∧ TabAt CC CT G s ds ∧ Z3 CC CT H p 56 L q N C cs ds G) (fun Q q' => ⟨_, rfl, C, ds, rfl, Z16.ch, Z16.g, fun s G sG ns tb => q' _ _ ⟨s, rfl, tb, Z16.same sG⟩⟩) ?_
      rintro _ G17 ⟨s, rfl, ts17, Z17⟩
      have wd : ∀ c ∈ ds, IsWord c.n := fun c h => (Z17.g.w c h).1
      refine sq_if1 (fun b' G => G17 = G ∧ b' = false) (fun Q q' => ?_) ?_ ?_
      · obtain ⟨dx, t, n, qs, g1, _⟩ := id Z17.w.tab
        obtain ⟨dy, t', n', qs', g2, _⟩ := id ts17
        refine ⟨_, rfl, _, rfl, q, dx, _, _, rfl, g1, .ins g2, c.nf, q, .ref s, cs, rfl, Z17.w.tab, .inl ⟨s, ds, rfl, ts17, _, rfl, _, rfl, _, rfl, eq_tups wc wd Z17.w.cols Z17.ch ⟨rfl, _, rfl, itFb (by simp) ?_⟩⟩⟩
        refine ⟨_, rfl, _, rfl, s, dy, _, _, rfl, g2, .ins g1, c.nf, s, .ref q, ds, rfl, ts17, .inl ⟨q, cs, rfl, Z17.w.tab, _, rfl, _, rfl, _, rfl, ne_tups wc wd Z17.w.cols Z17.ch ⟨rfl, _, rfl, q' _ _ ⟨rfl, ?_⟩⟩⟩⟩
        simp [eq_comm]
      · rintro _ ⟨_, e⟩
        cases e
      rintro _ ⟨rfl, _⟩
      refine sq_if1 (fun b' G => b' = false ∧ Same G17 G) (fun Q q' => ?_) ?_ ?_
      · refine ⟨_, rfl, _, rfl, s, C, ds, rfl, ts17, Z17.ch, Z17.g, fun G sG => ⟨_, rfl, itFb rfl ?_⟩⟩
        have Z18 := Z17.same sG
        refine ⟨_, rfl, _, rfl, q, L, cs, rfl, Z18.w.tab, Z18.w.cols, gc, fun G' sG' => ⟨_, rfl, itFb rfl ?_⟩⟩
        have Z19 := Z18.same sG'
        obtain ⟨dx, t, n, qs, g1, _⟩ := id Z19.w.tab
        refine ⟨_, rfl, _, rfl, q, dx, _, _, rfl, g1, .lst Z19.nm, c.nfL, q, .ref N, cs, rfl, Z19.w.tab, .inr ⟨⟨_, .base (.lst Z19.nm), c.noL⟩, _, rfl, _, rfl, itFb rfl ?_⟩⟩
        exact ⟨_, rfl, q, dx, _, _, rfl, g1, .non, c.nfN, q, .non, cs, rfl, Z19.w.tab, .inr ⟨⟨_, .base .non, c.noN⟩, _, rfl, _, rfl, q' _ _ ⟨rfl, sG.trans sG'⟩⟩⟩
      · rintro _ ⟨e, _⟩
        cases e
      rintro G18 ⟨_, s18⟩
      have W18 := (Z17.same s18).w
      obtain ⟨ws, hL18, pt18⟩ := id W18.cols
      have lw := pr_len pt18
      refine sq_set (fun x G => ∃ (R : Addr) (rs : List Addr), x = .ref R ∧ G R = some (.lst (rs.map V.ref)) ∧ Paired (ColAt CC G) rs cs ∧ Same G18 G) (fun Q q' => ?_) ?_
      · refine ⟨_, rfl, L, rfl, ⟨_, SqL.of hL18⟩, fun D nD => ?_⟩
        refine lc_list (xs := ws.map V.ref) (fun j G => NewCols CC G18 G D (cs.take j)) ⟨[], upd_same, .nil, Lw.Same.new (Same.refl G18) nD⟩ (fun j G _ ⟨_, _, _, s⟩ => SqL.of (s _ _ hL18)) ?_ ?_
        · rintro j x G hx hN
          rw [List.getElem?_map] at hx
          obtain ⟨t, ht, rfl⟩ := Option.map_eq_some_iff.mp hx
          have jl : j < cs.length := by rw [← lw]; exact (List.getElem?_eq_some_iff.mp ht).1
          have ec : cs[j]? = some cs[j] := List.getElem?_eq_getElem jl
          have tt := pr_at pt18 ht ec
          have sG := hN.choose_spec.2.2
          have wcj := gc.w _ (List.mem_of_getElem? ec)
          refine ⟨t, _, rfl, SqT.of (sG _ _ tt), rfl, _, _, rfl, _, _, rfl, _, _, rfl, _, _, rfl, rfl, rfl, _, rfl, _, rfl, _, rfl, _, rfl, rfl, rfl, ?_⟩
          refine col_new (c := cs[j]) wcj.1 wcj.2 fun x G2 s2 nx hc => ?_
          obtain ⟨acc, a1, a2, a3⟩ := new_step hN nD s2 hc (by rw [List.length_take]; have := gc.hi; omega)
          refine ⟨acc, a1, a2, ?_⟩
          rw [show cs.take (j + 1) = cs.take j ++ [cs[j]] from by rw [List.take_succ, ec]; rfl]
          exact a3
        · rintro G hN
          rw [List.length_map, lw, List.take_length] at hN
          obtain ⟨ps, g1, g3, sG⟩ := hN
          exact q' _ _ ⟨D, ps, rfl, g1, g3, sG⟩
      rintro _ G19 ⟨R, rs, rfl, gR, pR, s19⟩
      have W19 := W18.same s19
      have lr := pr_len pR
      have lo := gc.lo
      have hi := gc.hi
      have sub : ∀ m, 1 ≤ m → GoodC (cs.take m) := fun m hm => good_sub gc (List.take_sublist _ _) (by rw [List.length_take]; omega)
      obtain ⟨r0, e0⟩ : ∃ r, rs[0]? = some r := ⟨rs[0]'(by omega), List.getElem?_eq_getElem _⟩
      have t1 : rs.take 1 = [r0] := by
        rw [List.take_succ, e0]
        rfl
      have a0 : ∀ {i : Nat} {r : Addr}, rs[i]? = some r → atI (rs.map V.ref) ((i : Nat) : Int) = some (.ref r) := fun h => atI_nat (by rw [List.getElem?_map, h]; rfl)
      refine sq_set (fun x G => ∃ e : Addr, x = .ref e ∧ TabAt CC CT G e (cs.take 1) ∧ Same G19 G) (fun Q q' => ?_) ?_
      · refine ⟨rfl, _, rfl, R, _, 0, .ref r0, rfl, rfl, SqL.of gR, a0 e0, ?_⟩
        have hp := pr_take 1 pR
        rw [t1] at hp
        exact ⟨[r0], cs.take 1, rfl, hp, sub 1 (by decide), c.ne, fun e G s n tb => q' _ _ ⟨e, rfl, tb, s⟩⟩
      rintro _ G20 ⟨e, rfl, te, s20⟩
      refine sq_ifk (fun b' G => G20 = G ∧ b' = decide (cs.length = 2)) (fun τ G => ∃ (e : Addr) (es : List ColR), τ = [some (.ref a), some (.int (0 + (j : Int))), some (.ref p), some (.ref L), some (.ref M), some (.ref q), some (.ref p0), some (.ref N), u8, some (.int kd), some (.ref C), x11, x12, x13, x14, x15, x16, some (.ref s), some (.ref R), some (.ref e), v20] ∧ TabAt CC CT G e es ∧ (cs.length ≤ 2 → es = cs) ∧ Same G19 G) (fun Q q' => ?_) ?_ ?_ ?_
      · refine ⟨_, rfl, R, _, rfl, .inl (SqL.of (s20 _ _ gR)), rfl, _, rfl, q' _ _ ⟨rfl, ?_⟩⟩
        rw [List.length_map, lr]
        refine decide_eq_decide.mpr ⟨fun h => ?_, fun h => by rw [h]; rfl⟩
        have := V.int.inj h
        omega
      · rintro _ ⟨rfl, hb'⟩ N' hN
        have l2 := of_decide_eq_true hb'.symm
        obtain ⟨r1, e1⟩ : ∃ r, rs[1]? = some r := ⟨rs[1]'(by omega), List.getElem?_eq_getElem _⟩
        have t2 : rs.take 2 = [r0, r1] := by
          rw [List.take_succ, t1, e1]
          rfl
        have hp := pr_map (fun _ _ => ColAt.same s20) (pr_take 2 pR)
        rw [t2] at hp
        refine ⟨rfl, _, rfl, R, _, 0, .ref r0, rfl, rfl, SqL.of (s20 _ _ gR), a0 e0, _, rfl, R, _, 1, .ref r1, rfl, rfl, SqL.of (s20 _ _ gR), a0 e1, ?_⟩
        exact ⟨[r0, r1], cs.take 2, rfl, hp, sub 2 (by decide), c.ne, fun e G s n tb => hN _ _ ⟨e, cs.take 2, rfl, tb, fun _ => by rw [← l2, List.take_length], s20.trans s⟩⟩
      · rintro _ ⟨rfl, hb'⟩
        have l2 := of_decide_eq_false hb'.symm
        exact ⟨e, _, rfl, te, fun l => List.take_of_length_le (by omega), s20⟩
      rintro _ G21 ⟨e, es, rfl, te, hes, s21⟩
      refine sq_ifk (fun b' G => G21 = G ∧ b' = decide (cs.length = 3)) (fun τ G => ∃ (e : Addr), τ = [some (.ref a), some (.int (0 + (j : Int))), some (.ref p), some (.ref L), some (.ref M), some (.ref q), some (.ref p0), some (.ref N), u8, some (.int kd), some (.ref C), x11, x12, x13, x14, x15, x16, some (.ref s), some (.ref R), some (.ref e), v20] ∧ TabAt CC CT G e cs ∧ Same G19 G) (fun Q q' => ?_) ?_ ?_ ?_
      · refine ⟨_, rfl, R, _, rfl, .inl (SqL.of (s21 _ _ gR)), rfl, _, rfl, q' _ _ ⟨rfl, ?_⟩⟩
        rw [List.length_map, lr]
        refine decide_eq_decide.mpr ⟨fun h => ?_, fun h => by rw [h]; rfl⟩
        have := V.int.inj h
        omega
      · rintro _ ⟨rfl, hb'⟩ N' hN
        have l3 := of_decide_eq_true hb'.symm
        obtain ⟨r1, e1⟩ : ∃ r, rs[1]? = some r := ⟨rs[1]'(by omega), List.getElem?_eq_getElem _⟩
        obtain ⟨r2, e2⟩ : ∃ r, rs[2]? = some r := ⟨rs[2]'(by omega), List.getElem?_eq_getElem _⟩
        have t2 : rs.take 2 = [r0, r1] := by
          rw [List.take_succ, t1, e1]
          rfl
        have t3 : rs.take 3 = [r0, r1, r2] := by
          rw [List.take_succ, t2, e2]
          rfl
        have hp := pr_map (fun _ _ => ColAt.same s21) (pr_take 3 pR)
        rw [t3] at hp
        refine ⟨rfl, _, rfl, R, _, 0, .ref r0, rfl, rfl, SqL.of (s21 _ _ gR), a0 e0, _, rfl, R, _, 1, .ref r1, rfl, rfl, SqL.of (s21 _ _ gR), a0 e1, _, rfl, R, _, 2, .ref r2, rfl, rfl, SqL.of (s21 _ _ gR), a0 e2, ?_⟩
        exact ⟨[r0, r1, r2], cs.take 3, rfl, hp, sub 3 (by decide), c.ne, fun e G s n tb => hN _ _ ⟨e, rfl, by rw [← l3, List.take_length] at tb; exact tb, s21.trans s⟩⟩
      · rintro _ ⟨rfl, hb'⟩
        have l3 := of_decide_eq_false hb'.symm
        have ee := hes (by omega)
        rw [ee] at te
        exact ⟨e, rfl, te, s21⟩
      rintro _ G22 ⟨e, rfl, te, s22⟩
      have W22 := W19.same s22
      refine s1_if (fun b' G => b' = false ∧ Same G22 G) (fun Q q' => ?_) ?_ ?_
      · obtain ⟨dx, t, n, qs, g1, _⟩ := id W22.tab
        obtain ⟨dy, t', n', qs', g2, _⟩ := id te
        refine ⟨_, rfl, _, _, _, _, true, rfl, .own CT, .base (.ins g2 c.T.cl c.T.ha c.C.hn c.C.ht c.T.hm), kit_self, true, rfl, itFb rfl ?_⟩
        refine ⟨_, rfl, _, rfl, e, dy, _, _, rfl, g2, .ins g1, c.nf, e, .ref q, cs, rfl, te, .inl ⟨q, cs, rfl, W22.tab, _, rfl, _, rfl, itFb (by simp) ?_⟩⟩
        exact ⟨_, rfl, _, rfl, e, L, cs, rfl, te, W22.cols, gc, fun G s => ⟨_, rfl, q' _ _ ⟨rfl, s⟩⟩⟩
      · rintro _ ⟨e, _⟩
        cases e
      · rintro G23 ⟨_, s23⟩
        exact ⟨_, _, _, _, _, _, _, _, _, _, _, _, _, _, _, _, _, _, _, _, rfl, (W22.same s23).bas.out⟩
    · rintro σ H' ⟨v1, v2, v3, v4, v5, v6, v7, v8, v9, v10, v11, v12, v13, v14, v15, v16, v17, v18, v19, v20, rfl, sH⟩
      exact k H'
end
end Lw

set_option Elab.async false
set_option linter.all false
set_option maxRecDepth 100000
set_option maxHeartbeats 0
namespace Hb
open PySem PySem.Spec PyProof.Rows L2
/-! a Hook: facts, defs wherever they stand, one Bool more; the table of modules is seen too -/
abbrev Al : Type := He.AlD × Bool
def asB (g : Addr → Option Obj) (n : Nat) : List Addr := He5.asA g n ++ [sysModules]
def obG (n : Nat) (fa : List He.Fa) (fn : List He5.DefA) (own : PySem.W.Frag → Bool) (g : Addr → Option Obj) : Al := (He5.obsA fa fn (He.frG g (asB g n)), own (He.frG g (asB g n)))
def Says (fa : List He.Fa) (fn : List He5.DefA) (own : PySem.W.Frag → Bool) (K : PySem.W.Frag) : Prop := He5.SaysA fa fn K ∧ own K = true
def hook (n : Nat) (fa : List He.Fa) (fn : List He5.DefA) (own : PySem.W.Frag → Bool) : PySem.W.Hook where
  α := Al
  obs := fun s => obG n fa fn own s.heap.get?
  val := fun _ => (He5.valA fn, true)
  says := fun _ h => ∃ K : PySem.W.Frag, K.In h ∧ Says fa fn own K
  of := fun _ _ e => ⟨_, He.frG_in, congrArg Prod.fst e, congrArg Prod.snd e⟩
  keeps := fun _ _ _ ⟨K, hK, c⟩ k => ⟨K, PySem.W.Frag.In.keeps hK k, c⟩
theorem obG_eq {n : Nat} {fa : List He.Fa} {fn : List He5.DefA} {own : PySem.W.Frag → Bool} {g : Addr → Option Obj} {s : Shared} (h : ∀ a, g a = s.heap.get? a) : obG n fa fn own g = (hook n fa fn own).obs s := by
  rw [show g = s.heap.get? from funext h] <;> rfl
theorem Says.fact {fa : List He.Fa} {fn : List He5.DefA} {own : PySem.W.Frag → Bool} {K : PySem.W.Frag} (c : Says fa fn own K) {f : He.Fa} (hf : f ∈ fa) : f.ok K = true := by
  obtain ⟨i, hi⟩ := List.getElem?_of_mem hf
  exact c.1.fact i hi
/-- a class's constants -/
def cvS (K : PySem.W.Frag) (C : Addr) (f z : Str) : Bool := match PySem.W.findCls K (.ref C) (.type "type") f with
  | some (.val (.str y _)) => decide (y = z)
  | _ => false
def cvI (K : PySem.W.Frag) (C : Addr) (f : Str) (i : Int) : Bool := match PySem.W.findCls K (.ref C) (.type "type") f with
  | some (.val (.int y _)) => decide (y = i)
  | _ => false
theorem cvS_ok {K : PySem.W.Frag} {C : Addr} {f z : Str} (h : cvS K C f z = true) : ∃ u, ClX.CVal K C (.type "type") f (.str z) u := by
  unfold cvS at h
  split at h
  · rename_i y t e
    exact ⟨_, e, t, by rw [of_decide_eq_true h]⟩
  · cases h
theorem cvI_ok {K : PySem.W.Frag} {C : Addr} {f : Str} {i : Int} (h : cvI K C f i = true) : ∃ u, ClX.CVal K C (.type "type") f (.int i) u := by
  unfold cvI at h
  split at h
  · rename_i y t e
    exact ⟨_, e, t, by rw [of_decide_eq_true h]⟩
  · cases h
def crB (K : PySem.W.Frag) (C : Addr) : Bool := PySem.W.readsIn K C (.type "type") && He.eqO (PySem.W.specialIn K (.ref C) "__getattribute__") (some (some (.builtin "type.__getattribute__")))
theorem crB_ok {K : PySem.W.Frag} {C : Addr} (h : crB K C = true) : ClX.CRead K C (.type "type") := ⟨(He.ba h).1, He.eqO_ok (He.ba h).2⟩
def sysB (K : PySem.W.Frag) : Bool := match K.lookup sysModules with
  | some o => decide (o.cls = .type "dict")
  | none => false
theorem sysB_ok {K : PySem.W.Frag} (h : sysB K = true) : Lg.SysIn K := by
  unfold sysB at h
  split at h
  · rename_i o e
    exact ⟨o, e, of_decide_eq_true h⟩
  · cases h
end Hb

set_option Elab.async false
set_option linter.all false
set_option maxRecDepth 100000
set_option maxHeartbeats 0
namespace Hd2
open PySem PySem.Spec PyProof.Rows L2
/-! a Hook: facts, defs wherever they stand, written dicts, one Bool more; the table of modules is seen -/
abbrev Tb : Type := List (Option (List (Option (PySem.Str × Int))))
abbrev Al : Type := He.AlD × (Tb × Bool)
def tbs (ts : List He.Tab) (K : PySem.W.Frag) : Tb := ts.map fun t => He.dicW K (t.1 K)
def tbv (ts : List He.Tab) (w : World) : Tb := ts.map fun t => some (He.keysIn w.params t.2)
def obG (n : Nat) (fa : List He.Fa) (fn : List He5.DefA) (ts : List He.Tab) (own : PySem.W.Frag → Bool) (g : Addr → Option Obj) : Al :=
  (He5.obsA fa fn (He.frG g (Hb.asB g n)), (tbs ts (He.frG g (Hb.asB g n)), own (He.frG g (Hb.asB g n))))
def Says (fa : List He.Fa) (fn : List He5.DefA) (ts : List He.Tab) (own : PySem.W.Frag → Bool) (w : World) (K : PySem.W.Frag) : Prop := He5.SaysA fa fn K ∧ (tbs ts K = tbv ts w ∧ own K = true)
theorem says_of {n : Nat} {fa : List He.Fa} {fn : List He5.DefA} {ts : List He.Tab} {own : PySem.W.Frag → Bool} {w : World} {g : Addr → Option Obj} (e : obG n fa fn ts own g = (He5.valA fn, (tbv ts w, true))) : Says fa fn ts own w (He.frG g (Hb.asB g n)) :=
  ⟨congrArg Prod.fst e, congrArg Prod.fst (congrArg Prod.snd e), congrArg Prod.snd (congrArg Prod.snd e)⟩
def hook (n : Nat) (fa : List He.Fa) (fn : List He5.DefA) (ts : List He.Tab) (own : PySem.W.Frag → Bool) : PySem.W.Hook where
  α := Al
  obs := fun s => obG n fa fn ts own s.heap.get?
  val := fun w => (He5.valA fn, (tbv ts w, true))
  says := fun w h => ∃ K : PySem.W.Frag, K.In h ∧ Says fa fn ts own w K
  of := fun _ _ e => ⟨_, He.frG_in, says_of e⟩
  keeps := fun _ _ _ ⟨K, hK, c⟩ k => ⟨K, PySem.W.Frag.In.keeps hK k, c⟩
theorem obG_eq {n : Nat} {fa : List He.Fa} {fn : List He5.DefA} {ts : List He.Tab} {own : PySem.W.Frag → Bool} {g : Addr → Option Obj} {s : Shared} (h : ∀ a, g a = s.heap.get? a) : obG n fa fn ts own g = (hook n fa fn ts own).obs s := by
  rw [show g = s.heap.get? from funext h] <;> rfl
section
variable {fa : List He.Fa} {fn : List He5.DefA} {ts : List He.Tab} {own : PySem.W.Frag → Bool} {w : World} {K : PySem.W.Frag}
theorem Says.fact (c : Says fa fn ts own w K) {f : He.Fa} (hf : f ∈ fa) : f.ok K = true := by
  obtain ⟨i, hi⟩ := List.getElem?_of_mem hf
  exact c.1.fact i hi
theorem Says.tab (c : Says fa fn ts own w K) (i : Nat) {t : He.Tab} (h : ts[i]? = some t := by rfl) : ∃ es n, KDict K w (t.1 K) es n := by
  have e := congrArg (fun l : Tb => l[i]?) c.2.1
  simp only [tbs, tbv, List.getElem?_map, h] at e
  exact He.dicW_ok (Option.some.inj e)
end
end Hd2

set_option Elab.async false
set_option linter.all false
set_option maxRecDepth 100000
set_option maxHeartbeats 1000000
namespace Kd
open PySem PySem.Spec PyProof.Rows L2
/-! for x in D, D a dict of the module's own top with texts as keys -/
structure KyD (K : PySem.W.Frag) (w : World) (d : Addr) (zs : List Str) : Prop where
  ex : ∃ es n, KDict K w d es n ∧ es.size = zs.length ∧ ∀ (i : Nat) (e : DictEntry), es[i]? = some e → ∃ z t, zs[i]? = some z ∧ e.key = .str z t
def Itc (zs : List Str) : It := ⟨fun i _ => i < zs.length, fun i G x G2 => G2 = G ∧ ∃ z, zs[i]? = some z ∧ x = .str z, fun i _ => zs.length ≤ i⟩
def iKd (d : Addr) (zs : List Str) (td : TE) : TI := fun σ G R => td σ G fun x G1 => x = .ref d ∧ R (Itc zs) G1
section
variable {PR : Program} {wo : World} {KF : PySem.W.Frag} {tt : Expr} {dd : Addr} {zs : List Str} {es : Array DictEntry} {n : Nat}
theorem turn_kd (ir : Addr) (D : KDict KF wo dd es n) (hz : es.size = zs.length) (hk : ∀ (i : Nat) (e : DictEntry), es[i]? = some e → ∃ z t, zs[i]? = some z ∧ e.key = .str z t) :
    Turn PR wo KF tt (Itc zs) [ir] ir (fun i hp => hp.IsKeyIter ir dd i zs.length n) where
  mem := List.mem_singleton.mpr rfl
  obj := fun i hp q b mb => by
    rw [List.mem_singleton.mp mb]
    obtain ⟨ob, e1, e2, e3⟩ := q
    exact ⟨ob, e1, fun v y => by rw [e3] at y; cases y⟩
  keep := fun i h1 h2 q kp => q.at fun ob e1 => kp ir (List.mem_singleton.mpr rfl) ob e1
  item := by
    intro X e1 e2 e3 cm i ps s σ G EX I fo st go
    subst e1 e2 e3
    have gi : i < es.size := by rw [hz]; exact go
    obtain ⟨a0, a1, a2, a3, a4, a5⟩ := fo ir (List.mem_singleton.mpr rfl)
    have he : es[i]? = some es[i] := Array.getElem?_eq_getElem gi
    obtain ⟨z, t, q1, q2⟩ := hk i _ he
    refine next_key_item st (I.kIn _ _ D.at_) rfl hz he fun h' st' sb => ?_
    have J : Inv X ps σ G { s with heap := h' } := I.turned (t' := s.toks) (fun b ob mb e => (sb.2 b mb).trans e) a0 a1 a3 a4 a5
    obtain ⟨ob, b1, b2, b3⟩ := id st'
    refine ⟨es[i].key, rfl, ?_⟩
    exact go_of (s := { s with heap := h' }) b1 b2 b3 (by decide) ⟨.str z, G, J, ⟨t, q2⟩, ⟨rfl, z, q1, rfl⟩, st', fun b mb => (fo b mb).1⟩
  done := by
    intro X e1 e2 e3 cm i ps s σ G EX I fo st go
    subst e1 e2 e3
    obtain ⟨a0, a1, a2, a3, a4, a5⟩ := fo ir (List.mem_singleton.mpr rfl)
    exact next_key_end (I.ok.hd cm) st (I.kIn _ _ D.at_) rfl hz go fun h' eb => ⟨rfl, I.turned (t' := s.toks) (fun b ob mb e => eb b ob mb e) a0 a1 a3 a4 a5⟩
  self := fun A i s Q E st go => wpAny_pyIter_keyiter st go
end
theorem pi_kd {X : Cx} {tg e : Expr} {td : TE} {d : Addr} {zs : List Str} (D : KyD X.K X.w d zs) (he : PE X e td) : PI X tg e (iKd d zs td) := by
  obtain ⟨es, n, KD, hz, hk⟩ := D.ex
  refine ⟨fun ps s σ G R I h => ?_⟩
  refine thn (he.run ps s σ G _ I h) fun u s1 ⟨x, G1, I1, rx, ex, q⟩ => ?_
  subst ex
  obtain rfl : u = Value.ref d := rx
  refine iter_keys KD.low (I1.kIn _ _ KD.at_) ⟨rfl, rfl, rfl⟩ rfl ?_
  exact pi_one (tk := s1.toks) I1 _ (turn_kd _ KD hz hk) ⟨_, Heap.get?_push_size _ rfl, rfl, by rw [hz] <;> rfl⟩ q
theorem walk_kd {zs : List Str} : Walk (Itc zs) zs.length (fun _ => True) (fun i G x G2 => G2 = G ∧ ∃ z, zs[i]? = some z ∧ x = .str z) :=
  ⟨fun _ _ h _ => h, fun _ _ => Nat.le_refl _, fun _ _ _ _ _ _ y => y⟩
end Kd

set_option Elab.async false
set_option linter.all false
set_option maxRecDepth 100000
set_option maxHeartbeats 1000000
namespace Hd2
open PySem PySem.Spec PyProof.Rows L2
/-! the keys of a written dict, in their order -/
theorem dic_ky {K : PySem.W.Frag} {w : World} {a : Addr} {ks : List PySem.Str} (h : He.dicW K a = some (He.keysIn w.params ks)) : Kd.KyD K w a ks := by
  obtain ⟨es, n, D⟩ := He.dicW_ok h
  refine ⟨es, n, D, ?_⟩
  unfold He.dicW at h
  rw [D.at_] at h
  simp only [D.low] at h
  have e : es.toList.map He.keyOf = He.keysIn w.params ks := Option.some.inj h
  have ln : es.size = ks.length := by
    have z := congrArg List.length e
    unfold He.keysIn at z
    rw [List.length_map, List.length_map, Array.length_toList] at z
    exact z
  refine ⟨ln, fun i d hd => ?_⟩
  have hi : i < ks.length := by
    rw [← ln]
    exact (Array.getElem?_eq_some_iff.mp hd).1
  have z := congrArg (fun l : List (Option (PySem.Str × Int)) => l[i]?) e
  unfold He.keysIn at z
  simp only [List.getElem?_map, Array.getElem?_toList, hd, List.getElem?_eq_getElem hi, Option.map_some] at z
  have z2 := Option.some.inj z
  refine ⟨ks[i], ?_⟩
  unfold He.keyOf at z2
  split at z2
  · rename_i x t hk
    have e4 : x = ks[i] := congrArg Prod.fst (Option.some.inj z2)
    exact ⟨t, List.getElem?_eq_getElem hi, by rw [hk, e4]⟩
  · cases z2
theorem Says.ky {fa : List He.Fa} {fn : List He5.DefA} {ts : List He.Tab} {own : PySem.W.Frag → Bool} {w : World} {K : PySem.W.Frag} (c : Says fa fn ts own w K) (i : Nat) {t : He.Tab} (h : ts[i]? = some t := by rfl) : Kd.KyD K w (t.1 K) t.2 := by
  have e := congrArg (fun l : Tb => l[i]?) c.2.1
  simp only [tbs, tbv, List.getElem?_map, h] at e
  exact dic_ky (Option.some.inj e)
end Hd2

set_option Elab.async false
set_option linter.all false
set_option maxRecDepth 100000
set_option maxHeartbeats 0
namespace Hx
open PySem PySem.Spec PyProof.Rows L2
/-! an own error class with an own __init__, over any base: what the head looks up -/
def oexB (K : PySem.W.Frag) (C : Addr) (tl : List Value) (nw : String) : Bool := match K.lookup C with
  | some ⟨.type t, _, .cls ⟨_, _, .ref c :: bm, _, _, true, _, _, _, _, false⟩, sl⟩ => (decide (t = "type") && (decide (c = C) && PySem.Ge.tailB tl bm)) && (match sl.toList with
    | [_, _, _, _, some (.builtin z), _] => decide (z = nw)
    | _ => false)
  | _ => false
def clsB (K : PySem.W.Frag) (C : Addr) (tl : List Value) (nw : String) : Bool := oexB K C tl nw && (He.eqO (PySem.W.findIn K (.ref C) "__setattr__") (some (some (.builtin "object.__setattr__"))) && (decide (PySem.W.subIn K (.ref C) (.type "BaseException") = some true) &&
  (decide (PySem.W.typeIn K (.ref C) = some (.type "type")) && PySem.W.keepIn K (.ref C))))
theorem oexB_ok {K : PySem.W.Frag} {C : Addr} {tl : List Value} {nw : String} (T : PySem.Ge.Tl tl) (h : clsB K C tl nw = true) : Ge.OexT K C tl nw := by
  obtain ⟨h1, h⟩ := He.ba h
  obtain ⟨h2, h⟩ := He.ba h
  obtain ⟨h3, h⟩ := He.ba h
  obtain ⟨h4, h5⟩ := He.ba h
  refine ⟨T, ?_, He.eqO_ok h2, of_decide_eq_true h3, of_decide_eq_true h4, h5⟩
  unfold oexB at h1
  split at h1
  · rename_i t dd nm bs c bm N qn sn sub ab col sl e
    obtain ⟨q1, q2⟩ := He.ba h1
    obtain ⟨q3, q4⟩ := He.ba q1
    obtain ⟨q5, q6⟩ := He.ba q4
    have e1 := of_decide_eq_true q3
    have e2 := of_decide_eq_true q5
    subst e1 e2
    split at q2
    · rename_i k0 k1 k2 k3 z k5 es
      have e3 := of_decide_eq_true q2
      subst e3
      obtain ⟨sl⟩ := sl
      simp only at es
      subst es
      exact ⟨nm, qn, N, bs, bm, sn, sub, ab, col, dd, k0, k1, k2, k3, k5, e, q6⟩
    · cases q2
  · cases h1
end Hx

set_option Elab.async false
set_option linter.all false
set_option maxRecDepth 100000
set_option maxHeartbeats 0
namespace Lw
open PySem PySem.Spec PyProof.Rows L2
def fn0 : List He5.DefA := [dG "is_word" sIsWord, dG "copied" sCopied, dM "NoColumn" "__init__" "NoColumn.__init__" sNcI, dM "Column" "__init__" "Column.__init__" sColI [("large", .bl false), ("fixed", .bl false), ("empty", .bl false)], dM "Column" "__eq__" "Column.__eq__" sColE, dM "Table" "__init__" "Table.__init__" sTabI, dM "Table" "column" "Table.column" sTabC, dM "Table" "__contains__" "Table.__contains__" sTabIn, dM "Table" "__len__" "Table.__len__" sTabLen, dM "Table" "__eq__" "Table.__eq__" sTabE, ⟨fun K => He5.wf K (He.ga K "Table") "classmethod" "of", "of", "Table.of", defArgs sTabOf, defBody sTabOf, defScope sTabOf, [], []⟩, dG "_law_draw" sDraw]
def fn1 : List He5.DefA := [dG "_law_source" sSource, dG "_law_of" sOf, dG "_law_word" sWord, dG "_law_odd" sOddL, dG "_law_columns" sColsL, dG "_law_table" sTabM, dG "_law_flags" sFlags, dG "_law_tells" sTells, dG "_law_missing" sMissing, dG "law" sLaw]
def fn : List He5.DefA := fn0 ++ (fn1)
def glos0 : List Str := ["Column", "Table", "NoColumn", "CopiesError", "is_word", "copied", "_law_draw", "_law_source", "_law_of", "_law_word", "_law_odd", "_law_columns"]
def glos1 : List Str := ["_law_table", "_law_flags", "_law_tells", "_law_missing", "law"]
def glos : List Str := glos0 ++ (glos1)
def frees0 : List Str := ["len", "abs", "int", "range", "isinstance", "bool", "str", "list", "tuple", "dict", "all", "max"]
def frees1 : List Str := ["min", "enumerate", "repr", "LookupError"]
def frees : List Str := frees0 ++ (frees1)
def fas0 : List He.Fa := [.cls "Column", .mkr "Column", .cls "Table", .mkr "Table", .int "LONGEST_WORD" 8, .noat "Column" "name", .noat "Column" "large", .noat "Column" "fixed", .noat "Column" "empty", .noat "Table" "columns", .noat "Table" "names", .exm "NoColumn" "NoColumn" true]
def fas1 : List He.Fa := [.meth "NoColumn" "__init__", .meth "Column" "__eq__", .meth "Table" "column", .meth "Table" "__contains__", .meth "Table" "__len__", .meth "Table" "__eq__"]
def fas : List He.Fa := fas0 ++ (fas1)
def fa : List He.Fa := glos.map He.Fa.glo ++ (frees.map He.Fa.free ++ fas)
def tabs : List He.Tab := []
def nrB (K : PySem.W.Frag) (C : Addr) : Bool := He.eqO (PySem.W.findIn K (.ref C) "name") (some none) && (decide (PySem.W.kitOne K (.ref C) (.type "LookupError") = some true) && decide (PySem.W.kitOne K (.ref C) (.ref (He.ga K "CopiesError")) = some false))
def neqB (K : PySem.W.Frag) (C : Addr) : Bool := He.eqO (PySem.W.findIn K (.ref C) "__ne__") (some (some (.builtin "object.__ne__"))) && PySem.W.notFirst K C (.ref C)
def kitT (K : PySem.W.Frag) (t : String) : Bool := PySem.W.notFirst K (He.ga K "Table") (.type t) && decide (PySem.W.kitOne K (.type t) (.ref (He.ga K "Table")) = some false)
def own (K : PySem.W.Frag) : Bool := Hx.clsB K (He.ga K "NoColumn") Ge.leTail "LookupError.__new__" && (nrB K (He.ga K "NoColumn") && (Hk.excB K (He.ga K "NoColumn") && (Hk.insB K (He.ga K "Column") && (Hk.insB K (He.ga K "Table") && (Hb.crB K (He.ga K "Table") && (Hb.cvS K (He.ga K "Table") "KEY" "key" && (Hb.cvI K (He.ga K "Table") "MOST" 3 && (decide ((He.ga K "Table") ≠ (He.ga K "Column")) && (neqB K (He.ga K "Column") && (neqB K (He.ga K "Table") && (kitT K "list" && (kitT K "NoneType" && (He5.wrapB K (He.ga K "Table") "classmethod" "classmethod.__get__" "of" && (PySem.W.fnIn K (He5.wf K (He.ga K "Table") "classmethod" "of") && (Hb.sysB K)))))))))))))))
abbrev R : PySem.W.OpenRow := PySem.W.OpenLaw.row PySem.Challenge.rw_filteredcopies_k03_tables
abbrev qv : Program := PySem.W.view R.prog [24]
def names0 : List Str := ["_wall", "LONGEST_WORD", "is_word", "copied", "CopiesError", "BadColumn", "BadTable", "NoColumn", "Column", "Table", "_law_source", "_law_draw", "_law_of", "_law_word"]
def names1 : List Str := ["_law_odd", "_law_columns", "_law_table", "_law_flags", "_law_missing", "_law_tells"]
def names : List Str := names0 ++ (names1)
abbrev hk : PySem.W.Hook := Hd2.hook 6 fa fn tabs own
def ob (s : PySem.W.SharedT) : Hd2.Al := Hd2.obG 6 fa fn tabs own (HandSHeadRun.getT s)
theorem ob_eq (s : PySem.W.SharedT) : ob s = hk.obs s.abs := Hd2.obG_eq (HandSHeadRun.getT_eq s)
theorem run1 (w : World) : HandSHeadRun.RunEq R qv hk ob 9000 names (w.withFollow "special-get-raises" false) := by intro os; kernel_rfl
theorem run2 (w : World) : HandSHeadRun.RunEq R qv hk ob 9000 names (w.withFollow "special-get-raises" true) := by intro os; kernel_rfl
theorem run (w : World) : HandSHeadRun.RunEq R qv hk ob 9000 names w :=
  PySem.W.byRow2 "special-get-raises" (P := fun w => HandSHeadRun.RunEq R qv hk ob 9000 names w) run1 run2 w
end Lw

set_option Elab.async false
set_option linter.all false
set_option maxRecDepth 100000
set_option maxHeartbeats 4000000
namespace Lw
open PySem PySem.Spec PyProof.Rows L2 Lg
section
variable {K : PySem.W.Frag} {h : Heap} {mg : Str → Option Value} {w : World}
theorem f_glo (X : K.In h) (G : h.Ns mainGlobals mg) (c : Hd2.Says fa fn tabs own w K) {x : Str} (hx : x ∈ glos) : mg x = some (.ref (He.ga K x)) :=
  He.glo_ok X G (c.fact (f := .glo x) (List.mem_append_left _ (List.mem_map_of_mem hx)))
theorem f_free (X : K.In h) (G : h.Ns mainGlobals mg) (c : Hd2.Says fa fn tabs own w K) {x : Str} (hx : x ∈ frees) : mg x = none :=
  He.free_ok X G (c.fact (f := .free x) (List.mem_append_right _ (List.mem_append_left _ (List.mem_map_of_mem hx))))
theorem f_one (c : Hd2.Says fa fn tabs own w K) {f : He.Fa} (hf : f ∈ fas) : f.ok K = true := c.fact (List.mem_append_right _ (List.mem_append_right _ hf))
end
theorem facts {P : Program} {w : World} {K : PySem.W.Frag} {h : Heap} {mg : Str → Option Value} {f : Addr} (X : K.In h) (G : h.Ns mainGlobals mg) (hfa : mg ("law" : Str) = some (.ref f)) (c : Hd2.Says fa fn tabs own w K) :
    ∃ fd : FuncData, (∀ (s : Shared) (v : Value), BindsTo s fd ⟨[v], []⟩ [("script", v)]) ∧ ∀ base : Heap, K.In base → base.Ns mainGlobals mg → FnG P w K mg base CX0 7 f fd ["script"] (spLaw K) := by
  have gl : ∀ {x : Str}, x ∈ glos → mg x = some (.ref (He.ga K x)) := fun hx => f_glo X G c hx
  have fr : ∀ {x : Str}, x ∈ frees → mg x = none := fun hx => f_free X G c hx
  have fc : ∀ {f : He.Fa}, f ∈ fas → f.ok K = true := fun hf => f_one c hf
  have oo := c.2.2
  obtain ⟨oN1, oo⟩ := He.ba oo
  obtain ⟨oN2, oo⟩ := He.ba oo
  obtain ⟨oN3, oo⟩ := He.ba oo
  obtain ⟨oC1, oo⟩ := He.ba oo
  obtain ⟨oT1, oo⟩ := He.ba oo
  obtain ⟨oT2, oo⟩ := He.ba oo
  obtain ⟨oT3, oo⟩ := He.ba oo
  obtain ⟨oT4, oo⟩ := He.ba oo
  obtain ⟨oNe, oo⟩ := He.ba oo
  obtain ⟨oC2, oo⟩ := He.ba oo
  obtain ⟨oT5, oo⟩ := He.ba oo
  obtain ⟨oL, oo⟩ := He.ba oo
  obtain ⟨oNo, oo⟩ := He.ba oo
  obtain ⟨oW, oo⟩ := He.ba oo
  obtain ⟨oF, oo⟩ := He.ba oo
  have oSy := oo
  obtain ⟨d0, D0⟩ := c.1.def_ 0 (d := dG "is_word" sIsWord) rfl
  obtain ⟨d1, D1⟩ := c.1.def_ 1 (d := dG "copied" sCopied) rfl
  obtain ⟨d2, D2⟩ := c.1.def_ 2 (d := dM "NoColumn" "__init__" "NoColumn.__init__" sNcI) rfl
  obtain ⟨d3, D3⟩ := c.1.def_ 3 (d := dM "Column" "__init__" "Column.__init__" sColI [("large", .bl false), ("fixed", .bl false), ("empty", .bl false)]) rfl
  obtain ⟨d4, D4⟩ := c.1.def_ 4 (d := dM "Column" "__eq__" "Column.__eq__" sColE) rfl
  obtain ⟨d5, D5⟩ := c.1.def_ 5 (d := dM "Table" "__init__" "Table.__init__" sTabI) rfl
  obtain ⟨d6, D6⟩ := c.1.def_ 6 (d := dM "Table" "column" "Table.column" sTabC) rfl
  obtain ⟨d7, D7⟩ := c.1.def_ 7 (d := dM "Table" "__contains__" "Table.__contains__" sTabIn) rfl
  obtain ⟨d8, D8⟩ := c.1.def_ 8 (d := dM "Table" "__len__" "Table.__len__" sTabLen) rfl
  obtain ⟨d9, D9⟩ := c.1.def_ 9 (d := dM "Table" "__eq__" "Table.__eq__" sTabE) rfl
  obtain ⟨d10, D10⟩ := c.1.def_ 10 (d := ⟨fun K => He5.wf K (He.ga K "Table") "classmethod" "of", "of", "Table.of", defArgs sTabOf, defBody sTabOf, defScope sTabOf, [], []⟩) rfl
  obtain ⟨d11, D11⟩ := c.1.def_ 11 (d := dG "_law_draw" sDraw) rfl
  obtain ⟨d12, D12⟩ := c.1.def_ 12 (d := dG "_law_source" sSource) rfl
  obtain ⟨d13, D13⟩ := c.1.def_ 13 (d := dG "_law_of" sOf) rfl
  obtain ⟨d14, D14⟩ := c.1.def_ 14 (d := dG "_law_word" sWord) rfl
  obtain ⟨d15, D15⟩ := c.1.def_ 15 (d := dG "_law_odd" sOddL) rfl
  obtain ⟨d16, D16⟩ := c.1.def_ 16 (d := dG "_law_columns" sColsL) rfl
  obtain ⟨d17, D17⟩ := c.1.def_ 17 (d := dG "_law_table" sTabM) rfl
  obtain ⟨d18, D18⟩ := c.1.def_ 18 (d := dG "_law_flags" sFlags) rfl
  obtain ⟨d19, D19⟩ := c.1.def_ 19 (d := dG "_law_tells" sTells) rfl
  obtain ⟨d20, D20⟩ := c.1.def_ 20 (d := dG "_law_missing" sMissing) rfl
  obtain ⟨d21, D21⟩ := c.1.def_ 21 (d := dG "law" sLaw) rfl
  have e := hfa.symm.trans (gl (x := "law") (by decide +kernel))
  cases e
  refine ⟨d21, fun s v => FunD.bindsA (ps := ["script"]) D21 (fun _ _ _ _ _ _ us hl => match us, hl with | [_], _ => rfl) s [v] rfl, fun base KB GB => ?_⟩
  have TD : TxtD mg := ⟨fr (by decide +kernel), fr (by decide +kernel), fr (by decide +kernel), fr (by decide +kernel)⟩
  have TP : TxtP mg := ⟨fr (by decide +kernel), fr (by decide +kernel), fr (by decide +kernel), fr (by decide +kernel), fr (by decide +kernel), fr (by decide +kernel), fr (by decide +kernel), fr (by decide +kernel), fr (by decide +kernel), He.int_ok X G (fc (f := .int "LONGEST_WORD" 8) (List.mem_of_getElem? (i := 4) rfl))⟩
  have cW : Cal P w K mg base CX0 "is_word" 1 ["value"] (spIsWord K) := ⟨_, _, gl (by decide +kernel), D0.kp, ok_isWord D0 TP, D0.bindsN fun _ _ _ _ _ _ us hl => match us, hl with | [_], _ => rfl⟩
  have cC1 : Cal P w K mg base CX0 "copied" 1 ["value"] (spCopied K) := ⟨_, _, gl (by decide +kernel), D1.kp, ok_copied D1 TP, D1.bindsN fun _ _ _ _ _ _ us hl => match us, hl with | [_], _ => rfl⟩
  have cC2 : Cal P w K mg base CX0 "copied" 2 ["value"] spCopy := ⟨_, _, gl (by decide +kernel), D1.kp, ok_copy D1 TP cC1, D1.bindsN fun _ _ _ _ _ _ us hl => match us, hl with | [_], _ => rfl⟩
  obtain ⟨u1, uu⟩ := He.ba oN2
  obtain ⟨u2, u3⟩ := He.ba uu
  obtain ⟨excN, xfN⟩ := Hk.excB_ok oN3
  have MN := He.meth_ok (fc (f := .meth "NoColumn" "__init__") (List.mem_of_getElem? (i := 12) rfl))
  have TN : TxtNc K mg (He.ga K "NoColumn") "LookupError.__new__" := ⟨Hx.oexB_ok Ge.tl_le oN1, He.eqO_ok u1, gl (by decide +kernel)⟩
  have NC : NcT P w K mg base (He.ga K "NoColumn") := ⟨⟨_, _, _, TN, PySem.F.excBase_LookupError, MN.at_, beq_iff_eq.mp MN.fn, ok_nc D2 TN cC2, D2.bindsN fun _ _ _ _ _ _ us hl => match us, hl with | [_, _], _ => rfl⟩⟩
  obtain ⟨i1, i⟩ := He.ba oC1
  obtain ⟨i2, i⟩ := He.ba i
  obtain ⟨i3, i4⟩ := He.ba i
  obtain ⟨j1, j⟩ := He.ba oT1
  obtain ⟨j2, j⟩ := He.ba j
  obtain ⟨j3, j4⟩ := He.ba j
  have TC : TxtC K mg (He.ga K "Column") (He.ga K "Table") := ⟨He.cls_ok (fc (f := .cls "Column") (List.mem_of_getElem? (i := 0) rfl)), He.noat_ok (fc (f := .noat "Column" "name") (List.mem_of_getElem? (i := 5) rfl)), He.noat_ok (fc (f := .noat "Column" "large") (List.mem_of_getElem? (i := 6) rfl)), He.noat_ok (fc (f := .noat "Column" "fixed") (List.mem_of_getElem? (i := 7) rfl)), He.noat_ok (fc (f := .noat "Column" "empty") (List.mem_of_getElem? (i := 8) rfl)), gl (by decide +kernel), gl (by decide +kernel), Hb.crB_ok oT2, Hb.cvS_ok oT3, fr (by decide +kernel), He.eqO_ok i1, of_decide_eq_true i3, of_decide_eq_true i4, of_decide_eq_true i2⟩
  have TT : TxtTb K mg (He.ga K "Column") (He.ga K "Table") := ⟨He.cls_ok (fc (f := .cls "Table") (List.mem_of_getElem? (i := 2) rfl)), He.noat_ok (fc (f := .noat "Table" "columns") (List.mem_of_getElem? (i := 9) rfl)), He.noat_ok (fc (f := .noat "Table" "names") (List.mem_of_getElem? (i := 10) rfl)), Hb.cvI_ok oT4, fr (by decide +kernel), fr (by decide +kernel), fr (by decide +kernel), fr (by decide +kernel), He.eqO_ok j1, of_decide_eq_true j2⟩
  have ne : (He.ga K "Table") ≠ (He.ga K "Column") := of_decide_eq_true oNe
  have MC : ColM P w K mg base (He.ga K "Column") (He.ma K (He.ga K "Column") "__init__") d3 := ⟨gl (by decide +kernel), He.mkr_ok (fc (f := .mkr "Column") (List.mem_of_getElem? (i := 1) rfl)), ok_colI D3 TC cW, D3⟩
  obtain ⟨e1, e2⟩ := He.ba oC2
  obtain ⟨e3, e4⟩ := He.ba oT5
  have ME := He.meth_ok (fc (f := .meth "Column" "__eq__") (List.mem_of_getElem? (i := 13) rfl))
  have EC : Oq.EqC K (He.ga K "Column") (He.ma K (He.ga K "Column") "__eq__") := ⟨ME.at_, He.eqO_ok e1, ME.fn, of_decide_eq_true i2⟩
  have WC := He.meth_ok (fc (f := .meth "Table" "column") (List.mem_of_getElem? (i := 14) rfl))
  have WI := He.meth_ok (fc (f := .meth "Table" "__contains__") (List.mem_of_getElem? (i := 15) rfl))
  have WL := He.meth_ok (fc (f := .meth "Table" "__len__") (List.mem_of_getElem? (i := 16) rfl))
  have WE := He.meth_ok (fc (f := .meth "Table" "__eq__") (List.mem_of_getElem? (i := 17) rfl))
  have MT : Mk K (He.ga K "Table") (He.ma K (He.ga K "Table") "__init__") := He.mkr_ok (fc (f := .mkr "Table") (List.mem_of_getElem? (i := 3) rfl))
  have FT := ok_tabG (P := P) (w := w) (base := base) D5 TC TT
  have bT : Binds K d5 ["self", "columns"] [] := D5.bindsN fun _ _ _ _ _ _ us hl => match us, hl with | [_, _], _ => rfl
  have FE := ok_tabE (P := P) (w := w) (base := base) D9 TC TT EC (ok_colE D4 TC) (D4.bindsN fun _ _ _ _ _ _ us hl => match us, hl with | [_, _], _ => rfl) e2
  have FO := ok_tabOf (P := P) (w := w) (base := base) D10 TT MT FT bT
  have CO := He5.cmet_of (K := K) (C := (He.ga K "Table")) (m := "of") oW oF
  have cD := cal_draw (P := P) (w := w) (base := base) TD ⟨_, _, gl (by decide +kernel), D11⟩
  have cS : Cal P w K mg base CX0 "_law_source" 1 ["script", "place"] (spSource K) := ⟨_, _, gl (by decide +kernel), D12.kp, ok_source D12 TD, D12.bindsN fun _ _ _ _ _ _ us hl => match us, hl with | [_, _], _ => rfl⟩
  have cOf : Cal P w K mg base CX0 "_law_of" 2 ["source", "some"] (spOf K) := ⟨_, _, gl (by decide +kernel), D13.kp, ok_of D13 TD cD, D13.bindsN fun _ _ _ _ _ _ us hl => match us, hl with | [_, _], _ => rfl⟩
  have cWd : Cal P w K mg base CX0 "_law_word" 2 ["source", "taken"] (spWord K) := ⟨_, _, gl (by decide +kernel), D14.kp, ok_word D14 TD cD, D14.bindsN fun _ _ _ _ _ _ us hl => match us, hl with | [_, _], _ => rfl⟩
  have cOd : Cal P w K mg base CX0 "_law_odd" 3 ["source"] (spOdd2) := ⟨_, _, gl (by decide +kernel), D15.kp, ok_odd2 D15 cOf, D15.bindsN fun _ _ _ _ _ _ us hl => match us, hl with | [_], _ => rfl⟩
  have cCo : Cal P w K mg base CX0 "_law_columns" 3 ["source", "many"] (spCols) := ⟨_, _, gl (by decide +kernel), D16.kp, ok_cols D16 (fr (by decide +kernel)) cD cWd, D16.bindsN fun _ _ _ _ _ _ us hl => match us, hl with | [_, _], _ => rfl⟩
  have cTm : Cal P w K mg base CX0 "_law_table" 4 ["columns"] (spTabM (He.ga K "Column") (He.ga K "Table")) := ⟨_, _, gl (by decide +kernel), D17.kp, ok_tabM D17 ne (gl (by decide +kernel)) MC MT FT bT, D17.bindsN fun _ _ _ _ _ _ us hl => match us, hl with | [_], _ => rfl⟩
  have cFl : Cal P w K mg base CX0 "_law_flags" 1 ["column"] (spFlags (He.ga K "Column")) := ⟨_, _, gl (by decide +kernel), D18.kp, ok_flags D18 TC, D18.bindsN fun _ _ _ _ _ _ us hl => match us, hl with | [_], _ => rfl⟩
  have TF : TabF P w K mg base (He.ga K "Column") (He.ga K "Table") (He.ga K "NoColumn") := ⟨TT.cl, TC, TT, ⟨_, _, ⟨WL.at_, WL.fn⟩, ok_tabLen D8 TT, D8.bindsN fun _ _ _ _ _ _ us hl => match us, hl with | [_], _ => rfl⟩, ⟨_, _, ⟨WI.at_, WI.fn⟩, ok_tabIn D7 TT, D7.bindsN fun _ _ _ _ _ _ us hl => match us, hl with | [_, _], _ => rfl⟩, ⟨_, _, WC, ok_tabC D6 TC TT NC, D6.bindsN fun _ _ _ _ _ _ us hl => match us, hl with | [_, _], _ => rfl⟩, cFl⟩
  have cTe : Cal P w K mg base CX0 "_law_tells" 6 ["table", "columns"] (spTells (He.ga K "Column") (He.ga K "Table")) := ⟨_, _, gl (by decide +kernel), D19.kp, ok_tells D19 TF, D19.bindsN fun _ _ _ _ _ _ us hl => match us, hl with | [_, _], _ => rfl⟩
  have cMi : CalG P w K mg base CX0 "_law_missing" 6 ["table", "name"] (spMissing (He.ga K "Column") (He.ga K "Table")) := ⟨_, _, gl (by decide +kernel), D20.kp, ok_missing D20 ⟨fr (by decide +kernel), fr (by decide +kernel), fr (by decide +kernel), gl (by decide +kernel), gl (by decide +kernel), excN, xfN, He.eqO_ok u1, He.exm_ok (fc (f := .exm "NoColumn" "NoColumn" true) (List.mem_of_getElem? (i := 11) rfl)), of_decide_eq_true u2, of_decide_eq_true u3⟩ TF (Hb.sysB_ok oSy), D20.bindsN fun _ _ _ _ _ _ us hl => match us, hl with | [_, _], _ => rfl⟩
  obtain ⟨l1, l2⟩ := He.ba oL
  obtain ⟨o1, o2⟩ := He.ba oNo
  exact ok_law D21 ⟨cS, cD, cOf, cWd, cOd, cCo, cTm, cTe, cMi, MC, TF, TC, TT, ne, ⟨_, _, MT, FT, bT⟩, ⟨_, _, ⟨WE.at_, He.eqO_ok e3, WE.fn, of_decide_eq_true j2⟩, FE, D9.bindsN fun _ _ _ _ _ _ us hl => match us, hl with | [_, _], _ => rfl⟩, ⟨_, _, ⟨WI.at_, WI.fn⟩, ok_tabIn D7 TT, D7.bindsN fun _ _ _ _ _ _ us hl => match us, hl with | [_, _], _ => rfl⟩, ⟨_, _, CO, FO⟩, e4, l1, o1, of_decide_eq_true l2, of_decide_eq_true o2, fr (by decide +kernel), fr (by decide +kernel), fr (by decide +kernel), fr (by decide +kernel), fr (by decide +kernel)⟩
end Lw

open PySem PySem.W PyProof.Rows in
theorem PySem.Challenge.cw_filteredcopies_k03_tables_holds : PySem.Challenge.rw_filteredcopies_k03_tables.Holds := by
  w_on; o_law
  refine HandSHeadRun.head_any (r := Lw.R) (q := Lw.qv) (H := Lw.hk) (ob := Lw.ob) (M := 9000) (loose := Lw.names) (d := HandSHeadRun.topDef Lw.R.prog 24) (kwd := []) Lw.ob_eq
    (by kernel_rfl) (fun s => by kernel_rfl) Lw.run (by kernel_rfl) (by kernel_rfl) (by kernel_rfl) (by rfl) (by first | assumption | decide +kernel) (by decide +kernel) ⟨rfl, rfl, rfl, rfl, rfl, by decide +kernel⟩ ?hw ?hc
  case hw => w_witness2
  case hc =>
    refine Lg.walk_G (l := PySem.Challenge.rw_filteredcopies_k03_tables) (n := 63) (k := 7) (x := "script") (X0 := L2.CX0) rfl (by decide) (by kernel_rfl) ⟨rfl, by decide, by decide⟩ ?F (fun _ _ _ _ z => z)
    intro w mg fa h Y G hmg0
    obtain ⟨K, KX, c⟩ := Y
    have hmg : mg ("law" : PySem.Str) = some (.ref fa) := by
      have e : (HandSHeadRun.topDef Lw.R.prog 24).name = ("law" : PySem.Str) := by kernel_rfl
      rw [← e]
      exact hmg0
    obtain ⟨fd, hb, hF⟩ := Lw.facts (P := (PySem.Challenge.rw_filteredcopies_k03_tables).prog) (w := w) KX G hmg c
    exact ⟨K, fd, Lw.spLaw K, KX, hb, fun H a ns hl _ hS => ⟨a, ns, rfl, hS, hl, fun _ => rfl⟩, hF⟩
