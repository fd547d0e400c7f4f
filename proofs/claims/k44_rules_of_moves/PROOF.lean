import PyProof.Rows.All
import Wide.All
import OpenK.AllK
import Wide.FinOn
import HandS.Base
import HandS.Call
import HandS.List
import HandS.Comp
import HandS.Dict
import HandS.Iter
import HandS.Text
import HandS.Ends
import HandS.Words
import HandS.WordsList
import HandS.Exc
import HandS.ExcOwn
import HandS.TryOnly
import HandS.ExcInit
import HandS.More
import HandS.Defaults
import HandS.Walk
import KE.KExcIs
import HandS.IsInst
import HandS.ExcIs
import HandS.ExcField
import HandS.Style
import HandS.WordsExc
import HandS.Head0
import HandS.Head1
import HandS.Head2
import HandS.HeadEnd
import HandS.HeadHook1
import HandS.HeadHook2
import HandS.HeadHook3
import HandS.ExcCtx
import HandS.HotCalls
import HandS.ClsMeth
import HandS.Star
import HandS.MakeKwOnly
import HandS.Wide
import HandS.HeadNt
import PySem.Challenge.RW_filteredcopies_k44_rules_of_moves
set_option Elab.async false
set_option linter.all false
set_option maxRecDepth 100000
set_option maxHeartbeats 4000000
namespace Lw
open PySem PySem.Spec PyProof.Rows L2
abbrev MethD (K : PySem.W.Frag) (x q : Str) (st : Stmt) (f : Addr) (fd : FuncData) : Prop := FunD K x q (defArgs st) (defBody st) (defScope st) [] [] f fd
/-! heaps: all but what stands at a is kept -/
def Keep (a : Addr) (H H' : Hp) : Prop := ∀ b o, b ≠ a → H b = some o → H' b = some o
theorem Keep.refl {a : Addr} (H : Hp) : Keep a H H := fun _ _ _ h => h
theorem Keep.trans {a : Addr} {H H1 H2 : Hp} (x : Keep a H H1) (y : Keep a H1 H2) : Keep a H H2 := fun b o n h => y b o n (x b o n h)
theorem Keep.of_same {a : Addr} {H H' : Hp} (s : Same H H') : Keep a H H' := fun b o _ h => s b o h
theorem Keep.upd {a : Addr} {H H' : Hp} {o : HO} (k : Keep a H H') : Keep a H (upd H' a o) := fun b u n h => by
  rw [upd_ne n]
  exact k b u n h
theorem Keep.new {a p : Addr} {H H' : Hp} {o : HO} (k : Keep a H H') (hp : H' p = none) : Keep a H (L2.upd H' p o) := fun b u n h => by
  rw [upd_ne (ne_of_none (k b u n h) hp)]
  exact k b u n h
theorem Keep.seq {K : PySem.W.Frag} {a b : Addr} {H H' : Hp} {xs : List V} (k : Keep a H H') (n : b ≠ a) (h : SqL K H b xs) : SqL K H' b xs := by
  rcases h with (h | ⟨o, h⟩) | h
  · exact .inl (.inl (k _ _ n h))
  · exact .inl (.inr ⟨o, k _ _ n h⟩)
  · exact .inr h
theorem Keep.seqT {K : PySem.W.Frag} {a b : Addr} {H H' : Hp} {xs : List V} (k : Keep a H H') (n : b ≠ a) (h : SqT K H b xs) : SqT K H' b xs := by
  rcases h with (h | ⟨o, h⟩) | h
  · exact .inl (.inl (k _ _ n h))
  · exact .inl (.inr ⟨o, k _ _ n h⟩)
  · exact .inr h
/-- the drawing's source: three numbers; n bounds how often was drawn -/
def Src (H : Hp) (a : Addr) (n : Nat) : Prop := ∃ d s t : Int, H a = some (.lst [.int d, .int s, .int t]) ∧ 0 ≤ d ∧ 0 ≤ s ∧ s < 9223372036854775808 ∧ 0 ≤ t ∧ t ≤ (n : Int)
theorem Src.mono {H : Hp} {a : Addr} {n m : Nat} (h : Src H a n) (l : n ≤ m) : Src H a m := by
  obtain ⟨d, s, t, h1, h2, h3, h4, h5, h6⟩ := h
  exact ⟨d, s, t, h1, h2, h3, h4, h5, by omega⟩
theorem Src.new {H : Hp} {a p : Addr} {n : Nat} {o : HO} (h : Src H a n) (hp : H p = none) : Src (upd H p o) a n := by
  obtain ⟨d, s, t, h1, h2⟩ := h
  exact ⟨d, s, t, by rw [upd_ne (ne_of_none h1 hp)]; exact h1, h2⟩
theorem Src.ne {H : Hp} {a p : Addr} {n : Nat} (h : Src H a n) (hp : H p = none) : p ≠ a := by
  obtain ⟨d, s, t, h1, _⟩ := h
  exact (ne_of_none h1 hp).symm
abbrev big : Nat := 1000000000
/-! steps: a statement's reading by what its expression comes to -/
section
variable {te : TE} {c : TT} {u v t1 t2 : TS} {D : Ends} {σ : L2.St} {H : Hp} {i : Nat}
theorem sq_set (P : V → Hp → Prop) (h : ∀ Q : VK, (∀ x H', P x H' → Q x H') → te σ H Q) (k : ∀ x H', P x H' → u D (σ.set i (some x)) H') : tSeq (tAsg te (gName i)) u D σ H := h _ k
theorem s1_set (P : V → Hp → Prop) (h : ∀ Q : VK, (∀ x H', P x H' → Q x H') → te σ H Q) (k : ∀ x H', P x H' → D.nx (σ.set i (some x)) H') : (tAsg te (gName i)) D σ H := h _ k
theorem sq_par {j : Nat} {ta : TA} (P : V → V → Hp → Prop) (h : ∀ Q : List V → Hp → Prop, (∀ x y H', P x y H' → Q [x, y] H') → ta σ H Q) (k : ∀ x y H', P x y H' → u D ((σ.set i (some x)).set j (some y)) H') : tSeq (tPar i j ta) u D σ H := h _ fun x y H' p => ⟨x, y, rfl, k x y H' p⟩
theorem sq_do (P : V → Hp → Prop) (h : ∀ Q : VK, (∀ x H', P x H' → Q x H') → te σ H Q) (k : ∀ x H', P x H' → u D σ H') : tSeq (tDrop te) u D σ H := h _ k
theorem sq_if (P : Bool → Hp → Prop) (h : ∀ Q : Bool → Hp → Prop, (∀ b H', P b H' → Q b H') → c σ H Q) (kt : ∀ H', P true H' → t1 { D with nx := u D } σ H') (kf : ∀ H', P false H' → t2 { D with nx := u D } σ H') : tSeq (tIfS c t1 t2) u D σ H :=
  h _ fun b H' p => by
    cases b with
    | true => rw [if_pos rfl]; exact kt H' p
    | false => rw [if_neg Bool.false_ne_true]; exact kf H' p
theorem sq_if1 (P : Bool → Hp → Prop) (h : ∀ Q : Bool → Hp → Prop, (∀ b H', P b H' → Q b H') → c σ H Q) (kt : ∀ H', P true H' → t1 { D with nx := u D } σ H') (kf : ∀ H', P false H' → u D σ H') : tSeq (tIfS c t1 tNext) u D σ H := sq_if P h kt kf
theorem s1_if (P : Bool → Hp → Prop) (h : ∀ Q : Bool → Hp → Prop, (∀ b H', P b H' → Q b H') → c σ H Q) (kt : ∀ H', P true H' → t1 D σ H') (kf : ∀ H', P false H' → t2 D σ H') : (tIfS c t1 t2) D σ H :=
  h _ fun b H' p => by
    cases b with
    | true => rw [if_pos rfl]; exact kt H' p
    | false => rw [if_neg Bool.false_ne_true]; exact kf H' p
theorem s1_ret (P : V → Hp → Prop) (h : ∀ Q : VK, (∀ x H', P x H' → Q x H') → te σ H Q) (k : ∀ x H', P x H' → D.rt x H') : tRet te D σ H := h _ k
end
/-! promises -/
def spSource (K : PySem.W.Frag) : Sp := fun vs H Q _ => ∃ (a : Addr) (ns : List Int) (i : Int), vs = [.ref a, .int i] ∧ SqL K H a (ns.map V.int) ∧ ns.length ≤ 1000 ∧ 0 ≤ i ∧ i ≤ 1000 ∧
  ∀ p H', H p = none → Same H H' → Src H' p 0 → Q (.ref p) H'
def spDraw : Sp := fun vs H Q _ => ∃ (a : Addr) (n : Nat) (m : Int), vs = [.ref a, .int m] ∧ Src H a n ∧ n ≤ 1000000000 ∧ 0 < m ∧ m ≤ 1000000000 ∧
  ∀ H' i, Keep a H H' → Src H' a (n + 1) → 0 ≤ i → i < m → Q (.int i) H'
def spOf (K : PySem.W.Frag) : Sp := fun vs H Q _ => ∃ (a b : Addr) (n : Nat) (xs : List V), vs = [.ref a, .ref b] ∧ Src H a n ∧ n ≤ 1000000000 ∧ b ≠ a ∧ SqL K H b xs ∧ xs ≠ [] ∧ xs.length ≤ 100000 ∧
  ∀ H' x, Keep a H H' → Src H' a (n + 1) → x ∈ xs → Q x H'
def spNumber : Sp := fun vs H Q _ => ∃ (a : Addr) (n : Nat), vs = [.ref a] ∧ Src H a n ∧ n ≤ 900000000 ∧
  ∀ H' i, Keep a H H' → Src H' a (n + 8) → Q (.int i) H'
structure TxtD (mg : Str → Option Value) : Prop where
  len : mg "len" = none
  abs : mg "abs" = none
  int : mg "int" = none
  range : mg "range" = none
abbrev FnP (K : PySem.W.Frag) (x : Str) (st : Stmt) (f : Addr) (fd : FuncData) : Prop := FunD K x x (defArgs st) (defBody st) (defScope st) [] [] f fd
section
variable {P : Program} {w : World} {K : PySem.W.Frag} {mg : Str → Option Value} {base : Heap}
theorem bool_ite {c : Prop} [Decidable c] {A B : Prop} (h1 : c → A) (h2 : ¬ c → B) : if decide c = true then A else B := by
  by_cases h : c
  · rw [decide_eq_true h, if_pos rfl]; exact h1 h
  · rw [decide_eq_false h, if_neg Bool.false_ne_true]; exact h2 h
theorem atI_get {α : Type} {xs : List α} {i : Int} (h0 : 0 ≤ i) (h1 : i < xs.length) : ∃ x, atI xs i = some x ∧ x ∈ xs := by
  have e : i.toNat < xs.length := by omega
  refine ⟨xs[i.toNat], ?_, List.getElem_mem e⟩
  unfold atI ixN
  rw [if_pos h0, if_pos h1]
  simp [e]
theorem fmod_src (x : Int) : 0 ≤ x.fmod 2305843009213693951 ∧ x.fmod 2305843009213693951 < 2305843009213693951 :=
  ⟨Int.fmod_nonneg_of_pos x (by decide), Int.fmod_lt_of_pos x (by decide)⟩

/-! a def of the top, called by its name -/
def DefIs (K : PySem.W.Frag) (mg : Str → Option Value) (x : Str) (st : Stmt) : Prop := ∃ f fd, mg x = some (.ref f) ∧ FnP K x st f fd
structure Cal (P : Program) (w : World) (K : PySem.W.Frag) (mg : Str → Option Value) (base : Heap) (CX : CXT) (x : Str) (k : Nat) (ps : List Str) (sp : Sp) : Prop where
  ex : ∃ f fd, mg x = some (.ref f) ∧ PySem.W.keepIn K (.ref f) = true ∧ FnOk P w K mg base CX k f fd ps sp ∧ Binds K fd ps []
end
section
variable {X : Cx} {x : Str} {p pos : Pos} {e : Expr} {es : List Expr} {t : TA} {k : Nat} {ps : List Str} {sp : Sp}
theorem pe_cal (c : Cal X.prog X.w X.K X.mg X.base CX0 x k ps sp) (hr : Room k X.A) (ha : PA X (e :: es) t) (hg : Gl X x := by rfl) (hdb : (x == ("__debug__" : Str)) = false := by decide)
    (he : starEach (e :: es) X.env = (false, eval e X.env) :: starEach es X.env := by rfl) (hpl : (backTo pos (starEach es X.env)).any (·.1) = false := by rfl) :
    PE X (.Call (.Name x p) (e :: es) [] pos) (tCall sp [] E0 t) := by
  obtain ⟨f, fd, hm, hk, F, b⟩ := c.ex
  exact pe_call F hr hg hm hk b .nil pass0 ha hdb he hpl
end
section
variable {P : Program} {w : World} {K : PySem.W.Frag} {mg : Str → Option Value} {base : Heap}
end
/-! words -/
def IsWord (z : Str) : Prop := 1 ≤ z.length ∧ z.length ≤ 8 ∧ ∀ c ∈ z.cps.toList, 97 ≤ c ∧ c ≤ 122
def abc : List Nat := [97, 98, 99, 100, 101, 102, 103, 104, 105, 106, 107, 108, 109, 110, 111, 112, 113, 114, 115, 116, 117, 118, 119, 120, 121, 122]
def sign (c : Nat) : Str := ⟨#[c]⟩
abbrev letters : Str := "abcdefghijklmnopqrstuvwxyz"
theorem letters_eq : letters = ⟨abc.toArray⟩ := by decide +kernel
theorem abc_le {c : Nat} (h : c ∈ abc) : 97 ≤ c ∧ c ≤ 122 := by
  have h2 : ∀ c ∈ abc, 97 ≤ c ∧ c ≤ 122 := by decide
  exact h2 c h
theorem tl_sign (c : Nat) : (sign c).cps.toList = [c] := rfl
theorem joinL_flat : ∀ l : List (List Nat), TL.joinL [] l = l.flatten
  | [] => rfl
  | [p] => by simp [TL.joinL]
  | p :: q :: r => by
    show p ++ ([] ++ TL.joinL [] (q :: r)) = _
    rw [joinL_flat (q :: r)]
    simp
theorem join_signs (e : Str) (he : e.cps = #[]) (cs : List Nat) : (Txt.join e (cs.map sign)).cps.toList = cs := by
  rw [TL.join_eq]
  have h : (Str.join e (cs.map sign)).cps.toList = TL.joinL e.cps.toList ((cs.map sign).map fun z => z.cps.toList) := TL.tl_join e (cs.map sign)
  rw [h, he]
  show TL.joinL [] _ = _
  rw [joinL_flat, List.map_map]
  clear h
  induction cs with
  | nil => rfl
  | cons c r ih =>
    rw [List.map_cons, List.flatten_cons, ih]
    rfl
theorem nodup_le : ∀ {l ts : List Str}, l.Nodup → (∀ x ∈ l, x ∈ ts) → l.length ≤ ts.length
  | [], _, _, _ => Nat.zero_le _
  | x :: l, ts, hn, hs => by
    have hx : x ∈ ts := hs x List.mem_cons_self
    have hn2 := List.nodup_cons.mp hn
    have ih := nodup_le (l := l) (ts := ts.erase x) hn2.2 fun y hy => by
      have ne : y ≠ x := fun e => hn2.1 (e ▸ hy)
      exact (List.mem_erase_of_ne ne).mpr (hs y (List.mem_cons_of_mem _ hy))
    rw [List.length_erase_of_mem hx] at ih
    have pos : 0 < ts.length := List.length_pos_of_mem hx
    simp only [List.length_cons]
    omega
def cand (w : Str) (c : Nat) : Str := cutS (sign c ++ w) none (some 8)
theorem tl_app (a b : Str) : (a ++ b).cps.toList = a.cps.toList ++ b.cps.toList := by
  rw [PySem.Str.cps_append, Array.toList_append]
theorem len_tl (a : Str) : a.length = a.cps.toList.length := by simp [Str.length]
theorem cand_tl (w : Str) (c : Nat) : (cand w c).cps.toList = (c :: w.cps.toList).take 8 := by
  unfold cand cutS
  have e : (sign c ++ w).cps.toList = c :: w.cps.toList := tl_app _ _
  have l : (sign c ++ w).length = w.cps.toList.length + 1 := by rw [len_tl, e]; rfl
  rw [e, l]
  have h8 : HT.sIx (w.cps.toList.length + 1) (w.cps.toList.length + 1) (some 8) = min 8 (w.cps.toList.length + 1) := HT.sIx_nat _ _ 8
  rw [h8]
  show (List.take (min 8 (w.cps.toList.length + 1) - 0) (List.drop 0 (c :: w.cps.toList))) = _
  rw [Nat.sub_zero, List.drop_zero]
  have : (c :: w.cps.toList).length = w.cps.toList.length + 1 := rfl
  rw [← this, ← List.take_eq_take_min]
theorem cand_word {w : Str} {c : Nat} (h : IsWord w) (hc : c ∈ abc) : IsWord (cand w c) := by
  have e := cand_tl w c
  obtain ⟨h1, h2, h3⟩ := h
  rw [len_tl] at h1 h2
  refine ⟨?_, ?_, fun d hd => ?_⟩
  · rw [len_tl, e]; simp
  · rw [len_tl, e]; simp; omega
  · rw [e] at hd
    rcases List.mem_cons.mp (List.mem_of_mem_take hd) with q | q
    · rw [q]; exact abc_le hc
    · exact h3 d q
theorem cand_inj {w : Str} {c d : Nat} (h : cand w c = cand w d) : c = d := by
  have e : (cand w c).cps.toList = (cand w d).cps.toList := by rw [h]
  rw [cand_tl, cand_tl] at e
  simpa using e
theorem free_some (w : Str) (ts : List Str) (h : ts.length ≤ 25) : abc.filter (fun c => !decide (cand w c ∈ ts)) ≠ [] := by
  intro e
  have ha : ∀ c ∈ abc, cand w c ∈ ts := fun c hc => by
    have := List.filter_eq_nil_iff.mp e c hc
    simpa using this
  have nd : (abc.map (cand w)).Nodup := by
    have h0 : abc.Nodup := by decide
    exact List.Pairwise.map _ (fun a b ne q => ne (cand_inj q)) h0
  have l := nodup_le nd (ts := ts) (fun x hx => by
    obtain ⟨c, hc, rfl⟩ := List.mem_map.mp hx
    exact ha c hc)
  rw [List.length_map] at l
  have : abc.length = 26 := rfl
  omega
theorem inV_str (w : Str) (ts : List Str) : inV (.str w) (ts.map V.str) = decide (w ∈ ts) := by
  unfold inV
  rw [List.any_map]
  apply Bool.eq_iff_iff.mpr
  simp only [List.any_eq_true, Function.comp, decide_eq_true_eq]
  constructor
  · rintro ⟨y, hy, e⟩
    have e2 : (y == w) = true := e
    exact (eq_of_beq e2) ▸ hy
  · intro h
    exact ⟨w, h, beq_self_eq_true w⟩
theorem flat_strs (ts : List Str) : (ts.map V.str).all flatV = true := by
  rw [List.all_map]
  exact List.all_eq_true.mpr fun _ _ => rfl
abbrev nWord : List Str := ["source", "taken", "letters", "word", "free", "turn", "letter"]
def spWord (K : PySem.W.Frag) : Sp := fun vs H Q _ => ∃ (a b : Addr) (n : Nat) (ts : List Str), vs = [.ref a, .ref b] ∧ Src H a n ∧ n ≤ 900000000 ∧ b ≠ a ∧ SqL K H b (ts.map V.str) ∧ ts.length ≤ 25 ∧
  ∀ H' w, Keep a H H' → Src H' a (n + 10) → IsWord w → w ∉ ts → Q (.str w) H'
section
variable {P : Program} {w : World} {K : PySem.W.Frag} {mg : Str → Option Value} {base : Heap}
theorem str_notmem {z : Str} {ts : List Str} {A B : Prop} (h1 : z ∉ ts → A) (h2 : z ∈ ts → B) : if (if true = true then !inV (.str z) (ts.map V.str) else inV (.str z) (ts.map V.str)) = true then A else B := by
  rw [if_pos rfl, inV_str]
  by_cases h : z ∈ ts
  · rw [decide_eq_true h, Bool.not_true, if_neg Bool.false_ne_true]; exact h2 h
  · rw [decide_eq_false h, Bool.not_false, if_pos rfl]; exact h1 h
theorem letters_cps : letters.cps = abc.toArray := by rw [letters_eq]
theorem abc_at {i : Int} (h0 : 0 ≤ i) (h1 : i < 26) : ∃ c, atI letters.cps.toList i = some c ∧ c ∈ abc := by
  rw [letters_cps]
  exact atI_get (xs := abc) h0 (by show i < 26; exact h1)
end
/-! isinstance of a caught error that has its own dict -/
def rIsED (K : PySem.W.Frag) (cls : Value) (d : Option Addr) (a : Addr) : List V → Hp → VK → Prop := fun xs H Q =>
  ∃ (D dd : Addr) (c : V) (cv : Value) (b : Bool) (fs : List (Str × V)), cls = .ref D ∧ d = some dd ∧ ExcC K D ∧ xs = [.ref a, c] ∧ (∀ u, RelV c u → u = cv) ∧ H dd = some (.xd fs) ∧ PySem.W.kitOne K (.ref D) cv = some b ∧ Q (.bl b) H
theorem call_isED {X : Cx} {a : Addr} {cls : Value} {d : Option Addr} {oe : Obj} {pn : List (Addr × Obj)} (hz : Zc cls d oe) (hf : ∃ vs, oe.data = .fields vs) :
    CallR (X.suite a ((a, oe) :: pn)) (.builtin "isinstance") (rIsED X.K cls d a) := by
  intro pins s σ H xs us Q I r h
  obtain ⟨D, dd, c, cv, b, fs, rfl, rfl, C, rfl, hcv, hdd, e, q⟩ := h
  obtain ⟨u1, u2, rfl, r1, r2⟩ := vals2 r
  obtain rfl : u1 = Value.ref a := r1
  obtain rfl := hcv _ r2
  have hp := (I.pin (a, oe) (List.mem_append_left _ List.mem_cons_self)).1
  obtain ⟨mA, hns, _⟩ := (show ObjOk X.prog X.w H s.heap dd (.xd fs) from I.hok dd _ hdd)
  obtain ⟨od, ho, _⟩ := lookIn_ns hns
  obtain ⟨vs, hv⟩ := hf
  have J : PySem.W.InstAt s.heap a oe D (some od) := ⟨hp, hz.1, by unfold PySem.W.notCls; rw [hv] <;> rfl, by rw [hz.2]; exact ho⟩
  have hc : (PySem.W.clsIn X.K D).isSome = true := by
    have z := C.hd
    unfold PySem.W.hasDictIn at z
    cases q : PySem.W.clsIn X.K D with
    | none => rw [q] at z; cases z
    | some y => rfl
  exact PySem.W.kia_one (PySem.W.kitx_exc hc C.hg C.hk C.hs C.ha C.hn C.ht C.hm) I.kIn J e (fun z => nomatch z) fun tk => ⟨.bl b, H, I.tok tk, rfl, q⟩
/-! f(k = v, ..), nothing by position, what it raises wished for at the caller's slots -/
def tCallKS (m : Nat) (sp : Sp) (gV : List V → List V → List V) (E : L2.St → XK) (tk : TA) : TE := fun σ H Q => tk σ H fun zs H2 => zs.length = m ∧ sp (gV [] zs) H2 Q (E σ)
section
variable {X : Cx} {CX : CXT} {k : Nat} {f : Addr} {fd : FuncData} {ps ks : List Str} {sp : Sp} {E : L2.St → XK} {x : Str} {p pos : Pos} {kws : List Keyword} {tk : TA} {g : List Value → List Value → List Value} {gV : List V → List V → List V}
theorem pe_callKS (F : FnOk X.prog X.w X.K X.mg X.base CX k f fd ps sp) (hr : Room k X.A) (hm : X.mg x = some (.ref f)) (hk : PySem.W.keepIn X.K (.ref f) = true) (hb : KBn X.K fd ps 0 ks g gV) (hx : ∀ σ, PassesAt CX X σ (E σ)) (hkw : PK X kws tk)
    (hg : Gl X x := by rfl) (hall : (backToKw pos (keywordEach kws X.env)).all (·.1.isSome) = true := by rfl) (hks : (backToKw pos (keywordEach kws X.env)).filterMap (·.1) = ks := by rfl) (hdb : (x == ("__debug__" : Str)) = false := by decide)
    (hpl : ((backTo pos (starEach [] X.env)).any (·.1) || (backToKw pos (keywordEach kws X.env)).any (·.1.isNone)) = false := by rfl) :
    PE X (.Call (.Name x p) [] kws pos) (tCallKS ks.length sp gV E tk) := by
  refine ⟨fun pins s σ H Q I h => wpAny_Call_Name_kw (ld_glob I hg hm ?_ hdb)⟩
  refine PySem.W.callWith_KW0 (h₀ := X.base) I.ok.mod.kin hk hall (thn (hkw.run pos pins s σ H _ I h) fun ws s2 ⟨zs, H2, I2, rz, l2, q2⟩ => ⟨I2.kIn, ?_⟩) hpl
  rw [hks]
  have r2 := hb.rel .nil rz
  have bt := hb.to s2 [] ws I2.kIn rfl (rz.length.symm.trans l2)
  refine wpAny_call (codeAny_mono (F.run X.A X.stack s2 H2 ⟨[], ks.zip ws⟩ (g [] ws) (gV [] zs) Q (E σ) hr I2.env0 bt r2 q2) fun r s' hq => ?_)
  match r, hq with
  | .error e, hq => exact hx σ pins H2 s2 e s' I2 hq
  | .ok (.ret u), hq => exact I2.after hq
  | .ok .next, hq => exact hq.elim
  | .ok .brk, hq => exact hq.elim
  | .ok .cont, hq => exact hq.elim
end
structure TxtP (mg : Str → Option Value) : Prop where
  isi : mg "isinstance" = none
  int : mg "int" = none
  bool : mg "bool" = none
  str : mg "str" = none
  list : mg "list" = none
  tuple : mg "tuple" = none
  dict : mg "dict" = none
  len : mg "len" = none
  all : mg "all" = none
  longest : ∃ t, mg "LONGEST_WORD" = some (.int 8 t)
/-- a value of a built-in type t -/
def IsTy (K : PySem.W.Frag) (H : Hp) (v : V) (t : String) : Prop := TyX K H v (.type t)
def NotTy (K : PySem.W.Frag) (H : Hp) (v : V) (c : String) : Prop := ∃ t, TyX K H v (.type t) ∧ kitB t c = some false
def isWordB (z : Str) : Bool := decide (1 ≤ z.length) && (decide (z.length ≤ 8) && z.cps.toList.all fun c => decide (97 ≤ c) && decide (c ≤ 122))
theorem isWordB_iff (z : Str) : isWordB z = true ↔ IsWord z := by
  unfold isWordB IsWord
  simp only [Bool.and_eq_true, decide_eq_true_eq, List.all_eq_true]
theorem isWordB_true {z : Str} (h : IsWord z) : isWordB z = true := (isWordB_iff z).mpr h
theorem isWordB_false {z : Str} (h : ¬ IsWord z) : isWordB z = false := by
  cases e : isWordB z with
  | false => rfl
  | true => exact absurd ((isWordB_iff z).mp e) h
def spIsInteger (K : PySem.W.Frag) : Sp := fun vs H Q _ => ∃ (v : V) (b : Bool), vs = [v] ∧
  ((b = true ∧ ∃ i, v = .int i) ∨ (b = false ∧ ((∃ c, v = .bl c) ∨ NotTy K H v "int"))) ∧ Q (.bl b) H
def spIsWord (K : PySem.W.Frag) : Sp := fun vs H Q _ => ∃ (v : V) (b : Bool), vs = [v] ∧
  ((∃ z, v = .str z ∧ z.length ≤ 1000 ∧ b = isWordB z) ∨ (b = false ∧ NotTy K H v "str")) ∧ ∀ H', Same H H' → Q (.bl b) H'
def spCopied (K : PySem.W.Frag) : Sp := fun vs H Q _ => ∃ (v : V), vs = [v] ∧ NotTy K H v "list" ∧ NotTy K H v "tuple" ∧ NotTy K H v "dict" ∧ Q v H
section
variable {P : Program} {w : World} {K : PySem.W.Frag} {mg : Str → Option Value} {base : Heap}
theorem ty_int {H : Hp} (i : Int) : TyX K H (.int i) (.type "int") := .base (.int i)
theorem ty_bl {H : Hp} (i : Bool) : TyX K H (.bl i) (.type "bool") := .base (.bl i)
theorem ty_str {H : Hp} (i : Str) : TyX K H (.str i) (.type "str") := .base (.str i)
theorem ty_non {H : Hp} : TyX K H .non (.type "NoneType") := .base .non
theorem lt_sign (c d : Nat) : decide (([c] : List Nat) < [d]) = decide (c < d) := by
  have : (([c] : List Nat) < [d]) ↔ c < d := by
    rw [List.cons_lt_cons_iff]
    simp
  simp only [this]
end
theorem exc_end {H : Hp} {a C d : Addr} {fs : List (Str × V)} (na : H a = none) (nd : upd H a (exo a C none) d = none) (da : d ≠ a) :
    H d = none ∧ Same H (upd (del (upd (upd (upd H a (exo a C none)) d (exd d fs)) a (exo a C (some d))) a) d (.xd fs)) := by
  have n2 : H d = none := by rw [upd_ne da] at nd; exact nd
  refine ⟨n2, fun b o h => ?_⟩
  rw [upd_ne (ne_of_none h n2), del_ne (ne_of_none h na), upd_ne (ne_of_none h na), upd_ne (ne_of_none h n2), upd_ne (ne_of_none h na)]
  exact h
theorem Same.new {H H1 : Hp} {p : Addr} {o : HO} (s : Same H H1) (h : H1 p = none) : Same H (upd H1 p o) := fun b u e => by
  rw [upd_ne (ne_of_none (s b u e) h)]
  exact s b u e
section
variable {P : Program} {w : World} {K : PySem.W.Frag} {mg : Str → Option Value} {base : Heap}
theorem nt_str {H : Hp} (z : Str) : NotTy K H (.str z) "list" ∧ NotTy K H (.str z) "tuple" ∧ NotTy K H (.str z) "dict" :=
  ⟨⟨_, ty_str z, by decide +kernel⟩, ⟨_, ty_str z, by decide +kernel⟩, ⟨_, ty_str z, by decide +kernel⟩⟩
theorem NotTy.same {H H1 : Hp} {v : V} {c : String} (s : Same H H1) (h : NotTy K H v c) : NotTy K H1 v c := by
  obtain ⟨t, ht, k⟩ := h
  refine ⟨t, ?_, k⟩
  cases ht with
  | base b => cases b with
    | non => exact .base .non
    | bl y => exact .base (.bl y)
    | int i => exact .base (.int i)
    | str y => exact .base (.str y)
    | flt y => exact .base (.flt y)
    | lst e => exact .base (.lst (s _ _ e))
    | frz e => exact .base (.frz (s _ _ e))
    | tup e => exact .base (.tup (s _ _ e))
    | dK e => exact .base (.dK (s _ _ e))
    | dT e => exact .base (.dT (s _ _ e))
  | byt b => exact .byt b
  | set e => exact .set (s _ _ e)
  | kList e c => exact .kList e c
  | kTuple e c => exact .kTuple e c
  | kDict e c => exact .kDict e c
  | fTuple e => exact .fTuple (s _ _ e)
  | fDict e => exact .fDict (s _ _ e)
theorem not_nt_str {H : Hp} {z : Str} (h : NotTy K H (.str z) "str") : False := by
  obtain ⟨t, ht, k⟩ := h
  generalize hv : V.str z = v at ht
  generalize hu : Value.type t = u at ht
  cases ht with
  | base b =>
    cases b with
    | str y =>
      cases hu
      exact absurd k (by decide +kernel)
    | _ => cases hv
  | _ => cases hv
end
def oddStrs : List Str := ["", "abcdefghi", "A", "aB", "a1", "a b", " a", "a_", "-"]
inductive Odd (a : Addr) (H : Hp) : V → Prop where
  | str {z : Str} (h : z ∈ oddStrs) : Odd a H (.str z)
  | non : Odd a H .non
  | int (i : Int) : Odd a H (.int i)
  | bl (b : Bool) : Odd a H (.bl b)
  | tup {p : Addr} {xs : List V} (n : p ≠ a) (h : H p = some (.tup xs)) (e : xs = [] ∨ xs = [.str "a"]) : Odd a H (.ref p)
  | lst {p : Addr} {xs : List V} (n : p ≠ a) (h : H p = some (.lst xs)) (e : xs = [] ∨ xs = [.str "a"]) : Odd a H (.ref p)
  | dic {p : Addr} (n : p ≠ a) (h : H p = some (.dK [(.inr "a", .str "b")])) : Odd a H (.ref p)
theorem Odd.keep {a : Addr} {H H' : Hp} {v : V} (k : Keep a H H') (h : Odd a H v) : Odd a H' v := by
  cases h with
  | str h => exact .str h
  | non => exact .non
  | int i => exact .int i
  | bl b => exact .bl b
  | tup n h e => exact .tup n (k _ _ n h) e
  | lst n h e => exact .lst n (k _ _ n h) e
  | dic n h => exact .dic n (k _ _ n h)
theorem odd_notword {K : PySem.W.Frag} {a : Addr} {H : Hp} {v : V} (h : Odd a H v) : (∃ z, v = .str z ∧ z.length ≤ 1000 ∧ ¬ IsWord z) ∨ NotTy K H v "str" := by
  cases h with
  | @str z h =>
    have e : ∀ z ∈ oddStrs, (decide (z.length ≤ 1000) && !isWordB z) = true := by decide +kernel
    have e2 := e z h
    simp only [Bool.and_eq_true, decide_eq_true_eq, Bool.not_eq_true'] at e2
    exact .inl ⟨z, rfl, e2.1, fun hw => by rw [isWordB_true hw] at e2; cases e2.2⟩
  | non => exact .inr ⟨_, ty_non, by decide +kernel⟩
  | int i => exact .inr ⟨_, ty_int i, by decide +kernel⟩
  | bl b => exact .inr ⟨_, ty_bl b, by decide +kernel⟩
  | tup n h e => exact .inr ⟨_, .base (.tup h), by decide +kernel⟩
  | lst n h e => exact .inr ⟨_, .base (.lst h), by decide +kernel⟩
  | dic n h => exact .inr ⟨_, .base (.dK h), by decide +kernel⟩
theorem same_new2 {H : Hp} {p : Addr} {o u : HO} (n : H p = none) : Same H (upd (upd H p o) p u) := fun b x h => by
  rw [upd_ne (ne_of_none h n), upd_ne (ne_of_none h n)]
  exact h
def spOdd : Sp := fun vs H Q _ => ∃ (a : Addr) (n : Nat), vs = [.ref a] ∧ Src H a n ∧ n ≤ 900000000 ∧ ∀ H' v, Keep a H H' → Src H' a (n + 1) → Odd a H' v → Q v H'
theorem Src.same {H H1 : Hp} {a : Addr} {n : Nat} (s : Same H H1) (h : Src H a n) : Src H1 a n := by
  obtain ⟨d, x, t, h1, h2⟩ := h
  exact ⟨d, x, t, s _ _ h1, h2⟩
section
variable {P : Program} {w : World} {K : PySem.W.Frag} {mg : Str → Option Value} {base : Heap}
end
theorem kb_of {K : PySem.W.Frag} {x qual : Str} {params : Arguments} {body : List Stmt} {scope : Scope} {kws : List (Str × V)} {f : Addr} {fd : FuncData} {ps : List Str} (F : FunD K x qual params body scope [] kws f fd)
    (h : ∀ (kV doc pm : Value) (an : Option Addr) (cdv ct : Value) (ws : List Value), ws.length = ps.length → bindArgs (PySem.W.fnOf x qual params body scope .none kV doc pm an cdv ct) ⟨[], ps.zip ws⟩ = pure (ps.zip ws)) : KBn K fd ps 0 ps (fun _ ws => ws) (fun _ zs => zs) := by
  obtain ⟨oc, od, dV, kV, doc, pm, an, cdv, ct, osl, rfl, lk, hcd, hD, hK⟩ := F.ex
  rcases hD with ⟨_, rfl⟩ | ⟨e, _⟩
  · exact ⟨fun s us ws _ l1 l2 => by
      obtain rfl : us = [] := List.length_eq_zero_iff.mp l1
      exact .of_eq (h kV doc pm an cdv ct ws l2), fun _ r => r⟩
  · exact absurd rfl e
end Lw
namespace Hk
open PySem PySem.Spec PyProof.Rows L2
/-! a Hook: facts, defs, tables, one Bool more -/
abbrev Al : Type := He.AlT × Bool
def obG (n : Nat) (fa : List He.Fa) (fn : List He.DefD) (ts : List He.Tab) (own : PySem.W.Frag → Bool) (g : Addr → Option Obj) : Al := (He.obsTG n fa fn ts g, own (He.frG g (He.asD g n)))
def Says (fa : List He.Fa) (fn : List He.DefD) (ts : List He.Tab) (own : PySem.W.Frag → Bool) (w : World) (K : PySem.W.Frag) : Prop := He.SaysT fa fn ts w K ∧ own K = true
def hook (n : Nat) (fa : List He.Fa) (fn : List He.DefD) (ts : List He.Tab) (own : PySem.W.Frag → Bool) : PySem.W.Hook where
  α := Al
  obs := fun s => obG n fa fn ts own s.heap.get?
  val := fun w => (He.valT fn ts w, true)
  says := fun w h => ∃ K : PySem.W.Frag, K.In h ∧ Says fa fn ts own w K
  of := fun _ _ e => ⟨_, He.frG_in, congrArg Prod.fst e, congrArg Prod.snd e⟩
  keeps := fun _ _ _ ⟨K, hK, c⟩ k => ⟨K, PySem.W.Frag.In.keeps hK k, c⟩
theorem obG_eq {n : Nat} {fa : List He.Fa} {fn : List He.DefD} {ts : List He.Tab} {own : PySem.W.Frag → Bool} {g : Addr → Option Obj} {s : Shared} (h : ∀ a, g a = s.heap.get? a) : obG n fa fn ts own g = (hook n fa fn ts own).obs s := by
  rw [show g = s.heap.get? from funext h] <;> rfl
/-- an own error class over ValueError with an own __init__ -/
def oexB (K : PySem.W.Frag) (C : Addr) : Bool := match K.lookup C with
  | some ⟨.type t, _, .cls ⟨_, _, .ref c :: bm, _, _, true, _, _, _, _, false⟩, sl⟩ => (decide (t = "type") && (decide (c = C) && PySem.HandSPX.refsVE bm)) && (match sl.toList with
    | [_, _, _, _, some (.builtin z), _] => decide (z = "ValueError.__new__")
    | _ => false)
  | _ => false
def clsB (K : PySem.W.Frag) (C : Addr) : Bool := oexB K C && (He.eqO (PySem.W.findIn K (.ref C) "__setattr__") (some (some (.builtin "object.__setattr__"))) && (decide (PySem.W.subIn K (.ref C) (.type "BaseException") = some true) &&
  (decide (PySem.W.typeIn K (.ref C) = some (.type "type")) && PySem.W.keepIn K (.ref C))))
theorem oexB_ok {K : PySem.W.Frag} {C : Addr} (h : clsB K C = true) : OexC K C := by
  obtain ⟨h1, h⟩ := He.ba h
  obtain ⟨h2, h⟩ := He.ba h
  obtain ⟨h3, h⟩ := He.ba h
  obtain ⟨h4, h5⟩ := He.ba h
  refine ⟨?_, He.eqO_ok h2, of_decide_eq_true h3, of_decide_eq_true h4, h5⟩
  unfold oexB at h1
  split at h1
  · rename_i t dd nm bs c bm N qn sn sub ab col sl e
    obtain ⟨q1, q2⟩ := He.ba h1
    obtain ⟨q3, q4⟩ := He.ba q1
    obtain ⟨q5, q6⟩ := He.ba q4
    have e1 := of_decide_eq_true q3
    have e2 := of_decide_eq_true q5
    subst e1 e2
    split at q2
    · rename_i k0 k1 k2 k3 z k5 es
      have e3 := of_decide_eq_true q2
      subst e3
      obtain ⟨sl⟩ := sl
      simp only at es
      subst es
      exact ⟨nm, qn, N, bs, bm, sn, sub, ab, col, dd, k0, k1, k2, k3, k5, e, q6⟩
    · cases q2
  · cases h1
/-- isinstance asks its instances rightly -/
def excB (K : PySem.W.Frag) (D : Addr) : Bool := L2.xfB K D && (He.eqO (PySem.W.findIn K (.ref D) "__class__") (some (some (.builtin "object.__class__"))) && (decide (PySem.W.mroIn K D (.type "object") = some true) && getB K))
where getB (K : PySem.W.Frag) : Bool := decide (PySem.W.specialIn K (.builtin "object.__class__") "__get__" = some (some (.builtin "getset_descriptor.__get__"))) && decide (PySem.W.takesIn K (.builtin "object.__class__") = some true)
theorem excB_ok {K : PySem.W.Frag} {D : Addr} (h : excB K D = true) : ExcC K D ∧ XfC K D := by
  obtain ⟨h1, h⟩ := He.ba h
  obtain ⟨h2, h⟩ := He.ba h
  obtain ⟨h3, h⟩ := He.ba h
  obtain ⟨h4, h5⟩ := He.ba h
  have x := L2.xfB_ok h1
  exact ⟨⟨x.ga, x.gg, x.exC, x.hdC, He.eqO_ok h2, of_decide_eq_true h4, of_decide_eq_true h5, of_decide_eq_true h3⟩, x⟩
/-- isinstance of an own class's instances -/
def insB (K : PySem.W.Frag) (D : Addr) : Bool := He.eqO (PySem.W.findIn K (.ref D) "__class__") (some (some (.builtin "object.__class__"))) && (decide (PySem.W.mroIn K D (.type "object") = some true) && excB.getB K)
end Hk

set_option Elab.async false
set_option linter.all false
set_option maxRecDepth 100000
set_option maxHeartbeats 4000000
namespace Lw
open PySem PySem.Spec PyProof.Rows L2
/-! an own error with an own __init__, made: its context is None -/
section
variable {X : Cx} {CX : CXT} {x : Str} {e : Expr} {es : List Expr} {ta : TA} {p pos : Pos} {C fI : Addr} {k : Nat} {fd : FuncData} {ps : List Str} {sp : Sp} {ds : List Value} {dvs : List V}
theorem pmk_oexN (T : OexC X.K C) (iC : PySem.W.findIn X.K (.ref C) "__init__" = some (some (.ref fI))) (tI : PySem.W.typeIn X.K (.ref fI) = some (.type "function")) (F1 : FnOk X.prog X.w X.K X.mg X.base CX k fI fd ps sp) (hr : Room (k + 1) X.A) (hb : Binds X.K fd ps ds)
    (hd : Vals dvs ds) (hx : Passes CX X (fun _ _ _ => False)) (hm : X.mg x = some (.ref C)) (ha : PA X (e :: es) ta) (hg : Gl X x := by rfl) (hdb : (x == ("__debug__" : Str)) = false := by decide) (he : starEach (e :: es) X.env = (false, eval e X.env) :: starEach es X.env := by rfl)
    (hpl : (backTo pos (starEach es X.env)).any (·.1) = false := by rfl) : L2N.PMk X (.Call (.Name x p) (e :: es) [] pos) (tMkO C sp dvs ta) := fun pins s σ H Q I h => by
  obtain ⟨nm, qn, N, bs, bm, sn, sub, ab, col, dd, k0, k1, k2, k3, k5, hC, hbm⟩ := T.cls
  refine wpAny_Call_Name_kw (ld_glob I hg hm (PySem.W.callWith_K (h₀ := X.base) I.ok.mod.kin T.kC (thn (ha.run pos pins s σ H _ I h) fun us st ⟨vs, H1, J, rv, hz, q1⟩ => ⟨J.kIn, ?_⟩) he hpl) hdb)
  show wpAny _ _ (call (.ref C) us) _ _ _
  obtain ⟨hp, g, dr, tk, os⟩ := st
  have up : hp.objs.size ≤ hp.objs.size + 1 := by omega
  have spec := q1 (hp.objs.size + 1) (J.hok.fresh up)
  have stay : ∀ b o, hp.get? b = some o → ((hp.push (PySem.W.kdv_tup us)).push (PySem.HandSPX.excO C hp.objs.size)).get? b = some o := fun b o z => Heap.get?_push_of_some _ (Heap.get?_push_of_some _ z)
  have there : ((hp.push (PySem.W.kdv_tup us)).push (PySem.HandSPX.excO C hp.objs.size)).get? (hp.objs.size + 1) = some (PySem.HandSPX.excO C hp.objs.size) := by heap_get
  have J2 := J.laid (t' := tk) (a := hp.objs.size + 1) (o := exo (hp.objs.size + 1) C none) (h' := (hp.push (PySem.W.kdv_tup us)).push (PySem.HandSPX.excO C hp.objs.size)) stay up (exo_ok there)
  have rel : Vals (V.ref (hp.objs.size + 1) :: (vs ++ dvs)) (Value.ref (hp.objs.size + 1) :: (us ++ ds)) := .cons rfl (rv.append hd)
  have len : (Value.ref (hp.objs.size + 1) :: us ++ ds).length = ps.length := (F1.len _ _ _ _ spec ▸ rel.length).symm
  have line : us.length ≤ sizeLine := by rw [← Paired.length rv, sizeLine_eq]; omega
  refine wpAny_call (PySem.HandSPX.call_own F.excBase_ValueError (fun Y => PySem.HandSPX.refsVE_contains Y bm hbm) (J.kIn _ _ hC) (PySem.W.looks_findIn J.kIn iC) (fun self => PySem.W.bind_fn J.kIn self tI) line
    (codeAny_mono (F1.run _ X.stack _ _ ⟨Value.ref (hp.objs.size + 1) :: us, []⟩ (Value.ref (hp.objs.size + 1) :: (us ++ ds)) _ _ (fun _ _ _ => False) (hr.make C us []) (J2.env0.make C us []) (hb _ (Value.ref (hp.objs.size + 1) :: us) J2.kIn len) rel spec) fun r s' back => ?_))
  match r, back with
  | .error er, back => exact hx pins σ _ _ er s' J2 back
  | .ok .next, back => exact back.elim
  | .ok .brk, back => exact back.elim
  | .ok .cont, back => exact back.elim
  | .ok (.ret u), back =>
    obtain ⟨v, H2, os2, bare2, un2, hok2, rv2, ev, d, fs, ea, ed, hd1, q2⟩ := back
    subst ev
    obtain ⟨h2, g2, d2, t2, os'⟩ := s'
    obtain ⟨t0, G, JG, kG, ge, hoe, na⟩ := mk_end0 (d2 := d2) (t2 := t2) J up stay un2 hok2 os2 bare2 ea ed hd1
    exact ⟨rv2, _, _, _, ⟨G, g2, d2, t2, os'⟩, _, .ref C, some d, rfl, JG, kG, ge, hoe, ⟨rfl, rfl, fun z ez => by cases ez; rfl⟩, rfl, rfl, na, rfl, bare2, raises_own T.exC T.tyC, q2⟩
/-! C(e, ..), C what a local name holds -/
def tMakeL (i : Nat) (C : Addr) (sp : Sp) (E : XK) (t : TA) : TE := fun σ H Q => σ[i]? = some (some (.ref C)) ∧ tMake C sp [] E t σ H Q
theorem pe_makeL {E : XK} {t : TA} {i f : Nat} (M : Mk X.K C f) (F : FnOk X.prog X.w X.K X.mg X.base CX k f fd ps sp) (hr : Room (k + 1) X.A) (hN : X.N[i]? = some x) (hv : Vis X.env.scope x) (hb : Binds X.K fd ps []) (hx : Passes CX X E) (ha : PA X (e :: es) t)
    (hdb : (x == ("__debug__" : Str)) = false := by decide) (hcd : (x == ("__classdict__" : Str)) = false := by decide) (he : starEach (e :: es) X.env = (false, eval e X.env) :: starEach es X.env := by rfl) (hpl : (backTo pos (starEach es X.env)).any (·.1) = false := by rfl) :
    PE X (.Call (.Name x p) (e :: es) [] pos) (tMakeL i C sp E t) := ⟨fun pins s σ H Q I ⟨hs, ht⟩ => by
  refine wpAny_Call_Name_kw (thn ((pe_var (pos := p) hN hv hdb hcd).run pins s σ H (fun v H1 => v = .ref C ∧ H1 = H) I ⟨.ref C, hs, rfl, rfl⟩) fun u s1 ⟨v, H1, J, r1, e1, e2⟩ => ?_)
  subst e1 e2
  obtain rfl : u = Value.ref C := r1
  exact PySem.W.callWith_K (h₀ := X.base) J.ok.mod.kin M.kp (thn (ha.run pos pins s1 σ H1 _ J ht) fun us s2 ⟨vs, H2, J2, r, q⟩ => ⟨J2.kIn, run_make M F hr hb .nil hx J2 r q⟩) he hpl⟩
/-! what a try's body lets out, whatever its slots are -/
def WL (X : Cx) (W : WX) : XK := fun cls d H => ∀ σ : L2.St, σ.length = X.N.length → W cls d σ H
theorem passL {W : WX} (tk : L2N.Takes X W) : Passes (L2N.CX X.prog X.w) X (WL X W) := fun pins σ H s u s' I c => by
  obtain ⟨a, B, H', cls, d, hu, fl, hok, ub, na, os, ag, hE⟩ := c
  exact tk u s' (L2N.XE.of_call (W := W) (E := fun c d H => W c d σ H) I (fun _ _ _ z => z) ⟨a, B, H', cls, d, hu, fl, hok, ub, na, os, ag, hE σ I.len⟩)
end
/-! a def called while an error is handled -/
theorem okH {CX : CXT} {P : Program} {w : World} {K : PySem.W.Frag} {mg : Str → Option Value} {base : Heap} {k : Nat} {x qual : Str} {params : Arguments} {bd : List Stmt} {scope : Scope} {dvs : List V} {kws : List (Str × V)} {f : Addr} {fd : FuncData} {N ps : List Str} {sp : Sp}
    (F : FunD K x qual params bd scope dvs kws f fd) (S : FnScope N ps scope) (len : ∀ vs H Q E, sp vs H Q E → vs.length = ps.length)
    (hb : ∀ (cdv : Value) (A : Around) (outer : List Env) (s : Shared) (H : Hp) (vs : List V) (Q : VK) (E : XK) (p : Addr × Obj), L2H.Hot1 A p → L2H.RoomH k (A.deeper (envOfC qual scope s.heap.objs.size f cdv)) → sp vs H Q E →
      ∃ t, PSs (L2H.cxH CX P w K mg base N qual scope f cdv A outer s H E p) bd t ∧ t { nx := fun _ H' => Q .non H', rt := Q } (start N vs) H) : L2H.FnH P w K mg base CX (k + 1) f fd ps sp := by
  obtain ⟨oc, od, dV, kV, doc, pm, an, cdv, ct, osl, rfl, lk, hcd, _, _⟩ := F.ex
  exact L2H.fn_ofH lk hcd S len fun A outer s H vs Q E p h1 h2 h3 => hb cdv A outer s H vs Q E p h1 h2 h3
end Lw

set_option Elab.async false
set_option linter.all false
set_option maxRecDepth 100000
set_option maxHeartbeats 4000000
namespace Lw
open PySem PySem.Spec PyProof.Rows L2
/-! the draws of the later laws: also out of very many -/
def spDrawW : Sp := fun vs H Q _ => ∃ (a : Addr) (n : Nat) (m : Int), vs = [.ref a, .int m] ∧ Src H a n ∧ n ≤ 1000000000 ∧ 0 < m ∧ m.natAbs < 2 ^ 200 ∧
  ∀ H' i, Keep a H H' → Src H' a (n + 1) → 0 ≤ i → i < m → Q (.int i) H'
theorem small_m {m : Int} (h : -1000000000000000000000 < m ∧ m < 1000000000000000000000) : m.natAbs < 2 ^ 200 := by omega
/-! a tuple that the module holds -/
def tupB (K : PySem.W.Frag) (a : Addr) (xs : List V) : Bool := match K.lookup a with
  | some ⟨.type t, _, .seq its _, _⟩ => decide (t = "tuple") && (decide (its.size ≤ 1000) && decide (its.toList.map absV = xs.map some))
  | _ => false
theorem rel_of_abs {x : V} {u : Value} (h : absV u = some x) : RelV x u := by
  unfold absV at h
  split at h <;> first | cases h | skip
  all_goals first | rfl | exact ⟨_, rfl⟩
theorem vals_of_abs : ∀ {us : List Value} {xs : List V}, us.map absV = xs.map some → Vals xs us
  | [], [], _ => .nil
  | u :: us, x :: xs, h => by
    simp only [List.map_cons, List.cons.injEq] at h
    exact .cons (rel_of_abs h.1) (vals_of_abs h.2)
  | [], _ :: _, h => by cases h
  | _ :: _, [], h => by cases h
theorem tupB_ok {K : PySem.W.Frag} {a : Addr} {xs : List V} {H : Hp} (h : tupB K a xs = true) : SqT K H a xs := by
  unfold tupB at h
  split at h
  · rename_i t d its n sl e
    obtain ⟨h1, h2⟩ := He.ba h
    obtain ⟨h3, h4⟩ := He.ba h2
    have e1 := of_decide_eq_true h1
    have e2 := of_decide_eq_true h3
    have hs : sizeLine = 16777216 := by decide
    subst e1
    exact .inr ⟨_, its, n, e, rfl, rfl, by omega, vals_of_abs (of_decide_eq_true h4)⟩
  · cases h
end Lw
namespace Lw
open PySem PySem.Spec PyProof.Rows L2
theorem it_bf {b : Bool} {A B : Prop} (h : b = false) (x : B) : if b = true then A else B := by
  rw [h, if_neg Bool.false_ne_true]; exact x
theorem it_bt {b : Bool} {A B : Prop} (h : b = true) (x : A) : if b = true then A else B := by
  rw [h, if_pos rfl]; exact x
theorem str_mem {z : Str} {ts : List Str} {A B : Prop} (h1 : z ∈ ts → A) (h2 : z ∉ ts → B) : if inV (.str z) (ts.map V.str) = true then A else B := by
  rw [inV_str]
  by_cases h : z ∈ ts
  · rw [decide_eq_true h, if_pos rfl]; exact h1 h
  · rw [decide_eq_false h, if_neg Bool.false_ne_true]; exact h2 h
theorem kb_rel {K : PySem.W.Frag} {x qual : Str} {params : Arguments} {body : List Stmt} {scope : Scope} {kws : List (Str × V)} {f : Addr} {fd : FuncData} {ps ks : List Str} {g : List Value → List Value} {gV : List V → List V} (F : FunD K x qual params body scope [] kws f fd) (hr : ∀ {zs us}, Vals zs us → Vals (gV zs) (g us))
    (h : ∀ (kV doc pm : Value) (an : Option Addr) (cdv ct : Value) (ws : List Value), ws.length = ks.length → bindArgs (PySem.W.fnOf x qual params body scope .none kV doc pm an cdv ct) ⟨[], ks.zip ws⟩ = pure (ps.zip (g ws))) : KBn K fd ps 0 ks (fun _ ws => g ws) (fun _ zs => gV zs) := by
  obtain ⟨oc, od, dV, kV, doc, pm, an, cdv, ct, osl, rfl, lk, hcd, hD, hK⟩ := F.ex
  rcases hD with ⟨_, rfl⟩ | ⟨e, _⟩
  · exact ⟨fun s us ws _ l1 l2 => by
      obtain rfl : us = [] := List.length_eq_zero_iff.mp l1
      exact .of_eq (h kV doc pm an cdv ct ws l2), fun _ r => hr r⟩
  · exact absurd rfl e
theorem pass0S {X : Cx} : ∀ σ : L2.St, PassesAt CX0 X σ ((fun _ => E0 : L2.St → XK) σ) := fun _ _ _ _ _ _ _ h => h.elim
theorem same_at {H G : Hp} {D : Addr} {o : HO} (n : H D = none) (s : Same H G) : Same H (upd G D o) := fun b u h => by
  rw [upd_ne (ne_of_none h n)]
  exact s b u h
theorem g_name {i : Nat} {v : V} {σ : L2.St} {H : Hp} {Q : L2.St → Hp → Prop} (h : Q (σ.set i (some v)) H) : gName i v σ H Q := h
theorem vals_rev : ∀ {vs : List V} {us : List Value}, Vals vs us → Vals vs.reverse us.reverse
  | _, _, .nil => .nil
  | _, _, .cons h r => by
    rw [List.reverse_cons, List.reverse_cons]
    exact Vals.append (vals_rev r) (.cons h .nil)
end Lw

set_option Elab.async false
set_option linter.all false
set_option maxRecDepth 100000
set_option maxHeartbeats 0
namespace Hc
open PySem PySem.Spec PyProof.Rows L2
/-! a Hook: facts, defs wherever they stand, one Bool more -/
abbrev Al : Type := He.AlD × Bool
def obG (n : Nat) (fa : List He.Fa) (fn : List He5.DefA) (own : PySem.W.Frag → Bool) (g : Addr → Option Obj) : Al := (He5.obsAG n fa fn g, own (He.frG g (He5.asA g n)))
def Says (fa : List He.Fa) (fn : List He5.DefA) (own : PySem.W.Frag → Bool) (K : PySem.W.Frag) : Prop := He5.SaysA fa fn K ∧ own K = true
def hook (n : Nat) (fa : List He.Fa) (fn : List He5.DefA) (own : PySem.W.Frag → Bool) : PySem.W.Hook where
  α := Al
  obs := fun s => obG n fa fn own s.heap.get?
  val := fun _ => (He5.valA fn, true)
  says := fun _ h => ∃ K : PySem.W.Frag, K.In h ∧ Says fa fn own K
  of := fun _ _ e => ⟨_, He.frG_in, congrArg Prod.fst e, congrArg Prod.snd e⟩
  keeps := fun _ _ _ ⟨K, hK, c⟩ k => ⟨K, PySem.W.Frag.In.keeps hK k, c⟩
theorem obG_eq {n : Nat} {fa : List He.Fa} {fn : List He5.DefA} {own : PySem.W.Frag → Bool} {g : Addr → Option Obj} {s : Shared} (h : ∀ a, g a = s.heap.get? a) : obG n fa fn own g = (hook n fa fn own).obs s := by
  rw [show g = s.heap.get? from funext h] <;> rfl
theorem Says.fact {fa : List He.Fa} {fn : List He5.DefA} {own : PySem.W.Frag → Bool} {K : PySem.W.Frag} (c : Says fa fn own K) {f : He.Fa} (hf : f ∈ fa) : f.ok K = true := by
  obtain ⟨i, hi⟩ := List.getElem?_of_mem hf
  exact c.1.fact i hi
/-- a class's constants -/
def cvS (K : PySem.W.Frag) (C : Addr) (f z : Str) : Bool := match PySem.W.findCls K (.ref C) (.type "type") f with
  | some (.val (.str y _)) => decide (y = z)
  | _ => false
def cvI (K : PySem.W.Frag) (C : Addr) (f : Str) (i : Int) : Bool := match PySem.W.findCls K (.ref C) (.type "type") f with
  | some (.val (.int y _)) => decide (y = i)
  | _ => false
theorem cvS_ok {K : PySem.W.Frag} {C : Addr} {f z : Str} (h : cvS K C f z = true) : ∃ u, ClX.CVal K C (.type "type") f (.str z) u := by
  unfold cvS at h
  split at h
  · rename_i y t e
    exact ⟨_, e, t, by rw [of_decide_eq_true h]⟩
  · cases h
theorem cvI_ok {K : PySem.W.Frag} {C : Addr} {f : Str} {i : Int} (h : cvI K C f i = true) : ∃ u, ClX.CVal K C (.type "type") f (.int i) u := by
  unfold cvI at h
  split at h
  · rename_i y t e
    exact ⟨_, e, t, by rw [of_decide_eq_true h]⟩
  · cases h
def crB (K : PySem.W.Frag) (C : Addr) : Bool := PySem.W.readsIn K C (.type "type") && He.eqO (PySem.W.specialIn K (.ref C) "__getattribute__") (some (some (.builtin "type.__getattribute__")))
theorem crB_ok {K : PySem.W.Frag} {C : Addr} (h : crB K C = true) : ClX.CRead K C (.type "type") := ⟨(He.ba h).1, He.eqO_ok (He.ba h).2⟩
end Hc
namespace Lw
open PySem PySem.Spec PyProof.Rows L2
def dG (x : Str) (st : Stmt) : He5.DefA := ⟨fun K => He.ga K x, x, x, defArgs st, defBody st, defScope st, [], []⟩
def dM (C m q : Str) (st : Stmt) (kwd : List (Str × He.Dv) := []) : He5.DefA := ⟨fun K => He.ma K (He.ga K C) m, m, q, defArgs st, defBody st, defScope st, [], kwd⟩
end Lw

set_option Elab.async false
set_option linter.all false
set_option maxRecDepth 100000
set_option maxHeartbeats 4000000
namespace Lw
open PySem PySem.Spec PyProof.Rows L2
def top (i : Nat) : Stmt := PySem.Challenge.pw_filteredcopies_k44_rules_of_moves.main.body.getD i (.Pass ⟨0, 0, 0, 0⟩)
abbrev sTrusting : Stmt := top 3
abbrev sDoubting : Stmt := top 4
abbrev sFirst : Stmt := top 5
abbrev sSource : Stmt := top 7
abbrev sDraw : Stmt := top 8
abbrev sPick : Stmt := top 9
abbrev sDue : Stmt := top 10
section
variable {P : Program} {w : World} {K : PySem.W.Frag} {mg : Str → Option Value} {base : Heap}
theorem scSource : FnScope ["script", "at", "cell", "great"] ["script", "at"] (defScope sSource) := ⟨rfl, rfl, rfl, by decide +kernel, rfl, by decide +kernel, by decide +kernel⟩
theorem ok_source {f : Addr} {fd : FuncData} (F : FnP K "_law_source" sSource f fd) (T : TxtD mg) : FnOk P w K mg base CX0 1 f fd ["script", "at"] (spSource K) := by
  refine F.ok scSource (fun vs H Q E h => ?_) (fun cdv A outer s H vs Q E hr h => ?_)
  · obtain ⟨a, ns, i, rfl, _⟩ := h
    rfl
  · obtain ⟨a, ns, i, rfl, hS, hl, i0, i1, k⟩ := h
    refine ⟨_, PSs.nox (pss_cons (ps_set (i := 2) scSource.nd rfl (Or.inl rfl) (pe_ifExp (pt_cmpR op_lt (pv 1) (pe_callB call_len_seq (by rfl) T.len PySem.boot_len (pa_cons (pv 0) pa_nil)) (nomark _)) (pe_callTy call_int1 (by rfl) T.int (by decide +kernel) (pa_cons (pe_ix ix_list (pv 0) (pv 1) (fun _ _ => rfl)) pa_nil)) pe_int))
      (pss_cons (ps_set (i := 3) scSource.nd rfl (Or.inl rfl) (pe_ifExp (pt_cmpR op_ge (pe_callB call_abs (by rfl) T.abs (by decide +kernel) (pa_cons (pv 2) pa_nil)) (pe_op op_pow pe_int pe_int) (nomark _)) (pe_callB call_abs (by rfl) T.abs (by decide +kernel) (pa_cons (pv 2) pa_nil)) pe_int))
      (pss_one (ps_ret (pe_lst (pa_cons (pv 3) (pa_cons (pe_op op_add (pe_op op_add (pe_op op_modN (pe_callTy call_int1 (by rfl) T.int (by decide +kernel) (pa_cons (pv 2) pa_nil)) pe_int) (pe_op op_mul pe_int (pv 1))) pe_int) (pa_cons pe_int pa_nil)))))))), ?_⟩
    refine sq_set (fun x H' => H = H' ∧ ∃ c : Int, x = .int c) (fun Q q => ?_) ?_
    · refine ⟨_, rfl, _, rfl, a, _, rfl, .inl hS, _, _, rfl, rfl, _, rfl, ?_⟩
      refine bool_ite (fun c => ?_) (fun c => ?_)
      · obtain ⟨x, hx, hm⟩ := atI_get (xs := ns.map V.int) i0 (by simpa using c)
        obtain ⟨z, _, rfl⟩ := List.mem_map.mp hm
        exact ⟨_, rfl, _, rfl, a, _, _, _, rfl, rfl, hS, hx, .inl ⟨_, rfl, q _ _ ⟨rfl, z, rfl⟩⟩⟩
      · exact q _ _ ⟨rfl, 0, rfl⟩
    rintro _ _ ⟨rfl, c, rfl⟩
    refine sq_set (fun x H' => H = H' ∧ ∃ d : Int, x = .int d ∧ 0 ≤ d) (fun Q q => ?_) ?_
    · refine ⟨_, rfl, _, rfl, _, _, rfl, rfl, ⟨by decide, by decide, by decide⟩, _, _, rfl, rfl, _, rfl, ?_⟩
      refine bool_ite (fun _ => ?_) (fun _ => ?_)
      · exact ⟨_, rfl, _, rfl, q _ _ ⟨rfl, _, rfl, by split <;> omega⟩⟩
      · exact q _ _ ⟨rfl, 0, rfl, by decide⟩
    rintro _ _ ⟨rfl, d, rfl, d0⟩
    refine ⟨_, rfl, _, rfl, .inl ⟨_, rfl, _, _, rfl, rfl, (by show (2305843009213693951 : Int) ≠ 0; decide), _, rfl, _, _, rfl, rfl, .inl ⟨by decide, by decide⟩, _, _, rfl, rfl, _, _, rfl, rfl, (by show 3 ≤ sizeLine; decide), fun p hp => ?_⟩⟩
    have hb := fmod_src c
    exact k p _ hp (fun b o h => by rw [upd_ne (ne_of_none h hp)]; exact h) ⟨d, _, 0, upd_same, d0, by omega, by omega, by decide, by decide⟩
theorem scDraw : FnScope ["source", "many", "digit", "mixed"] ["source", "many"] (defScope sDraw) := ⟨rfl, rfl, rfl, by decide +kernel, rfl, by decide +kernel, by decide +kernel⟩
theorem ok_draw {f : Addr} {fd : FuncData} (F : FnP K "_law_draw" sDraw f fd) (T : TxtD mg) : FnOk P w K mg base CX0 1 f fd ["source", "many"] spDrawW := by
  refine F.ok scDraw (fun vs H Q E h => ?_) (fun cdv A outer s H vs Q E hr h => ?_)
  · obtain ⟨a, n, m, rfl, _⟩ := h
    rfl
  · obtain ⟨a, n, m, rfl, ⟨d, s', t, hA, d0, s0, s1, t0, t1⟩, hn, m0, m1, k⟩ := h
    have hu := hu_of hr
    have nd := scDraw.nd
    refine ⟨_, PSs.nox (pss_cons (ps_if (pt_cmpR op_gt (pe_ix ix_list (pv 0) pe_int (fun _ _ => rfl)) pe_int (nomark _))
        (pss_cons (ps_set (i := 2) nd rfl (Or.inl rfl) (pe_op op_modN (pe_callTy call_int1 (by rfl) T.int (by decide +kernel) (pa_cons (pe_ix ix_list (pv 0) pe_int (fun _ _ => rfl)) pa_nil)) (pv 1)))
          (pss_cons (ps_asg (pe_op op_fdivW (pe_ix ix_list (pv 0) pe_int (fun _ _ => rfl)) (pv 1)) (pg_sub (pv 0) pe_int set_list)) (pss_one (ps_ret (pv 2))))) pss_nil)
      (pss_cons (ps_asg (pe_op op_add (pe_ix ix_list (pv 0) pe_int (fun _ _ => rfl)) pe_int) (pg_sub (pv 0) pe_int set_list))
      (pss_cons (ps_set (i := 3) nd rfl (Or.inl rfl) (pe_op op_modN (pe_callTy call_int1 (by rfl) T.int (by decide +kernel) (pa_cons (pe_op op_add (pe_op op_pow (pe_op op_add (pe_ix ix_list (pv 0) pe_int (fun _ _ => rfl)) (pe_op op_mul pe_int (pe_ix ix_list (pv 0) pe_int (fun _ _ => rfl)))) pe_int) (pe_op op_mul pe_int (pe_ix ix_list (pv 0) pe_int (fun _ _ => rfl)))) pa_nil)) pe_int))
      (pss_cons (ps_set (i := 3) nd rfl (Or.inl rfl) (pe_op op_modN (pe_callTy call_int1 (by rfl) T.int (by decide +kernel) (pa_cons (pe_op op_add (pe_op op_pow (pe_op op_add (pv 3) (pe_op op_mul pe_int (pe_ix ix_list (pv 0) pe_int (fun _ _ => rfl)))) pe_int) (pe_op op_mul pe_int (pv 3))) pa_nil)) pe_int))
      (pss_one (ps_ret (pe_op op_modN (pe_callTy call_int1 (by rfl) T.int (by decide +kernel) (pa_cons (pe_op op_fdivN (pv 3) pe_int) pa_nil)) (pv 1)))))))), ?_⟩
    have zA : ∀ (r : Int), 0 ≤ r.fmod m ∧ r.fmod m < m := fun r => ⟨Int.fmod_nonneg_of_pos r m0, Int.fmod_lt_of_pos r m0⟩
    have mz : m ≠ 0 := by omega
    refine sq_if (fun b H' => H = H' ∧ b = decide (0 < d)) (fun Q q => ?_) ?_ ?_
    · exact ⟨_, rfl, a, _, _, _, rfl, rfl, SqL.of hA, rfl, _, _, rfl, rfl, _, rfl, q _ _ ⟨rfl, rfl⟩⟩
    · rintro _ ⟨rfl, c⟩
      refine ⟨_, rfl, a, _, _, _, rfl, rfl, SqL.of hA, rfl, .inl ⟨_, rfl, _, rfl, _, _, rfl, rfl, mz, ?_⟩⟩
      refine ⟨_, rfl, a, _, _, _, rfl, rfl, SqL.of hA, rfl, _, rfl, _, _, rfl, rfl, wide_div m0 m1 (by decide) (by decide), _, rfl, a, _, _, _, rfl, rfl, hA, rfl, _, rfl, ?_⟩
      exact k _ _ (Keep.refl H).upd ⟨_, _, _, upd_same, Int.ediv_nonneg d0 (by omega), s0, s1, t0, by omega⟩ (zA d).1 (zA d).2
    · rintro _ ⟨rfl, c⟩
      refine ⟨_, rfl, a, _, _, _, rfl, rfl, SqL.of hA, rfl, _, _, rfl, rfl, _, rfl, a, _, _, _, rfl, rfl, hA, rfl, ?_⟩
      dsimp only
      refine sq_set (fun x H' => upd H a (.lst [.int d, .int s', .int (t + 1)]) = H' ∧ ∃ z : Int, x = .int z ∧ 0 ≤ z ∧ z < 2305843009213693951) (fun Q q => ?_) ?_
      · refine ⟨_, rfl, a, _, _, _, rfl, rfl, SqL.of upd_same, rfl, _, rfl, a, _, _, _, rfl, rfl, SqL.of upd_same, rfl, _, _, rfl, rfl, .inl ⟨by decide, by decide⟩, _, _, rfl, rfl, _, _, rfl, rfl, ⟨by decide, by decide, ?_⟩, _, rfl, a, _, _, _, rfl, rfl, SqL.of upd_same, rfl, _, _, rfl, rfl, .inl ⟨by decide, by decide⟩, _, _, rfl, rfl,
          .inl ⟨_, rfl, _, _, rfl, rfl, (by show (2305843009213693951 : Int) ≠ 0; decide), ?_⟩⟩
        · show (s' + 15485863 * (t + 1)).natAbs < 2 ^ 64
          omega
        · exact q _ _ ⟨rfl, _, rfl, (fmod_src _).1, (fmod_src _).2⟩
      rintro _ _ ⟨rfl, z, rfl, z0, z1⟩
      refine sq_set (fun x H' => upd H a (.lst [.int d, .int s', .int (t + 1)]) = H' ∧ ∃ z : Int, x = .int z ∧ 0 ≤ z ∧ z < 2305843009213693951) (fun Q q => ?_) ?_
      · refine ⟨_, rfl, _, rfl, a, _, _, _, rfl, rfl, SqL.of upd_same, rfl, _, _, rfl, rfl, .inl ⟨by decide, by decide⟩, _, _, rfl, rfl, _, _, rfl, rfl, ⟨by decide, by decide, ?_⟩, _, rfl, _, _, rfl, rfl, .inl ⟨by decide, by decide⟩, _, _, rfl, rfl,
          .inl ⟨_, rfl, _, _, rfl, rfl, (by show (2305843009213693921 : Int) ≠ 0; decide), ?_⟩⟩
        · show (z + 32452867 * (t + 1)).natAbs < 2 ^ 64
          omega
        · refine q _ _ ⟨rfl, _, rfl, Int.fmod_nonneg_of_pos _ (by show (0 : Int) < 2305843009213693921; decide), ?_⟩
          exact Int.lt_trans (Int.fmod_lt_of_pos _ (by show (0 : Int) < 2305843009213693921; decide)) (by decide)
      rintro _ _ ⟨rfl, y, rfl, y0, y1⟩
      refine ⟨_, rfl, _, _, rfl, rfl, ⟨by decide, by decide⟩, .inl ⟨_, rfl, _, rfl, _, _, rfl, rfl, mz, ?_⟩⟩
      exact k _ _ ((Keep.refl H).upd) ⟨_, _, _, upd_same, d0, by omega, by omega, by omega, by omega⟩ (zA _).1 (zA _).2
theorem cal_draw (T : TxtD mg) (D : DefIs K mg "_law_draw" sDraw) : Cal P w K mg base CX0 "_law_draw" 1 ["source", "many"] spDrawW := by
  obtain ⟨f, fd, hm, F⟩ := D
  exact ⟨f, fd, hm, F.kp, ok_draw F T, F.bindsN fun _ _ _ _ _ _ us hl => match us, hl with | [_, _], _ => rfl⟩
/-! the first deed of an order -/
def firstD : List (Str × V) → List Str → V
  | [], _ => .non
  | (m, d) :: r, ms => if m ∈ ms then d else firstD r ms
abbrev trO : List (Str × V) := [("stays", .str "change"), ("leaves", .str "take"), ("enters", .str "put"), ("away", .non)]
abbrev dbO : List (Str × V) := [("enters", .str "put"), ("stays", .str "change"), ("leaves", .str "take"), ("away", .non)]
structure OrdT (K : PySem.W.Frag) (o : Addr) (ods : List (Str × V)) : Prop where
  ex : ∃ ps : List Addr, ps.length = ods.length ∧ (∀ H, SqT K H o (ps.map V.ref)) ∧ ∀ (i : Nat) (p : Addr) (q : Str × V), ps[i]? = some p → ods[i]? = some q → ∀ H, SqT K H p [.str q.1, q.2]
def tpAd (K : PySem.W.Frag) (a : Addr) : List Addr := match K.lookup a with
  | some ⟨_, _, .seq its _, _⟩ => its.toList.filterMap fun u => match u with
    | .ref p => some p
    | _ => none
  | _ => []
def ordB (K : PySem.W.Frag) (o : Addr) (ods : List (Str × V)) : Bool := decide ((tpAd K o).length = ods.length) && (tupB K o ((tpAd K o).map V.ref) && ((tpAd K o).zip ods).all fun r => tupB K r.1 [.str r.2.1, r.2.2])
theorem ordB_ok {K : PySem.W.Frag} {o : Addr} {ods : List (Str × V)} (h : ordB K o ods = true) : OrdT K o ods := by
  obtain ⟨h1, h2⟩ := He.ba h
  obtain ⟨h3, h4⟩ := He.ba h2
  refine ⟨tpAd K o, of_decide_eq_true h1, fun H => tupB_ok h3, fun i p q hp hq H => tupB_ok (List.all_eq_true.mp h4 (p, q) ?_)⟩
  apply List.mem_of_getElem? (i := i)
  rw [List.getElem?_zip_eq_some]
  exact ⟨hp, hq⟩
def spFirst (K : PySem.W.Frag) : Sp := fun vs H Q _ => ∃ (o m : Addr) (ods : List (Str × V)) (ms : List Str), vs = [.ref o, .ref m] ∧ OrdT K o ods ∧ SqT K H m (ms.map V.str) ∧ Q (firstD ods ms) H
theorem scFirst : FnScope ["order", "moves", "move", "deed"] ["order", "moves"] (defScope sFirst) := ⟨rfl, rfl, rfl, by decide +kernel, rfl, by decide +kernel, by decide +kernel⟩
theorem ok_first {f : Addr} {fd : FuncData} (F : FnP K "_first_deed" sFirst f fd) : FnOk P w K mg base CX0 1 f fd ["order", "moves"] (spFirst K) := by
  refine F.ok scFirst (fun vs H Q E h => ?_) (fun cdv A outer s H vs Q E hr h => ?_)
  · obtain ⟨o, m, ods, ms, rfl, _⟩ := h
    rfl
  · obtain ⟨o, m, ods, ms, rfl, ⟨ps, hl, hT, hP⟩, hm, k⟩ := h
    have nd := scFirst.nd
    refine ⟨_, PSs.nox (pss_cons (ps_for PassesOwn.never rfl (pi_tup (pv 0)) (pg_tup (by rfl) (pgs_cons (pg_name (i := 2) nd rfl (Or.inl rfl)) (pgs_cons (pg_name (i := 3) nd rfl (Or.inl rfl)) pgs_nil)))
        (pss_one (ps_if (pt_cmpR op_in_seq (pv 2) (pv 1) (by rfl)) (pss_one (ps_ret (pv 3))) pss_nil)))
      (pss_one (ps_ret pe_non))), ?_⟩
    refine ⟨_, rfl, o, rfl, ⟨_, hT H⟩, ?_⟩
    refine for_tup (xs := ps.map V.ref) (fun i σ G => H = G ∧ (∃ v2 v3 : Option V, σ = [some (.ref o), some (.ref m), v2, v3]) ∧ firstD (ods.drop i) ms = firstD ods ms) ⟨rfl, ⟨_, _, rfl⟩, rfl⟩ (fun i σ G _ ⟨e, _⟩ => e ▸ hT H) ?_ ?_
    · rintro i x σ G hx ⟨rfl, ⟨v2, v3, rfl⟩, e⟩
      rw [List.getElem?_map] at hx
      obtain ⟨p, hp, rfl⟩ := Option.map_eq_some_iff.mp hx
      have hi : i < ods.length := by
        have := (List.getElem?_eq_some_iff.mp hp).1
        omega
      have hq : ods[i]? = some ods[i] := List.getElem?_eq_getElem hi
      have hd := List.drop_eq_getElem_cons hi
      generalize ods[i] = q at hq hd
      obtain ⟨mv, dv⟩ := q
      rw [hd] at e
      refine ⟨p, _, rfl, hP i p _ hp hq H, rfl, _, _, rfl, _, _, rfl, rfl, ?_⟩
      refine ⟨_, rfl, _, rfl, m, _, rfl, .inr hm, rfl, flat_strs _, _, rfl, str_mem (fun hin => ?_) (fun hni => ?_)⟩
      · refine ⟨_, rfl, ?_⟩
        have e2 : firstD ((mv, dv) :: ods.drop (i + 1)) ms = dv := if_pos hin
        rw [← e, e2] at k
        exact k
      · refine ⟨rfl, ⟨_, _, rfl⟩, ?_⟩
        rw [← e]
        exact (if_neg hni).symm
    · rintro σ G ⟨rfl, ⟨v2, v3, rfl⟩, e⟩
      rw [List.drop_eq_nil_of_le (by simp [hl])] at e
      rw [← e] at k
      exact k
/-- trusting, doubting -/
def spMv (K : PySem.W.Frag) (ods : List (Str × V)) : Sp := fun vs H Q _ => ∃ (m : Addr) (b : Bool) (ms : List Str), vs = [.ref m, .bl b] ∧ SqT K H m (ms.map V.str) ∧ Q (firstD ods ms) H
theorem sctrusting : FnScope ["moves", "whole"] ["moves", "whole"] (defScope sTrusting) := ⟨rfl, rfl, rfl, by decide +kernel, rfl, by decide +kernel, by decide +kernel⟩
theorem ok_trusting {f o : Addr} {fd : FuncData} {ods : List (Str × V)} (F : FnP K "trusting" sTrusting f fd) (c : Cal P w K mg base CX0 "_first_deed" 1 ["order", "moves"] (spFirst K)) (hg : mg "TRUSTING" = some (.ref o)) (O : OrdT K o ods) : FnOk P w K mg base CX0 2 f fd ["moves", "whole"] (spMv K ods) := by
  refine F.ok sctrusting (fun vs H Q E h => ?_) (fun cdv A outer s H vs Q E hr h => ?_)
  · obtain ⟨m, b, ms, rfl, _⟩ := h
    rfl
  · obtain ⟨m, b, ms, rfl, hm, k⟩ := h
    refine ⟨_, PSs.nox (pss_one (ps_ret (pe_cal c hr (pa_cons (pe_glob (v := .ref o) rfl hg rfl) (pa_cons (pv 0) pa_nil))))), ?_⟩
    exact ⟨_, rfl, o, m, ods, ms, rfl, O, hm, k⟩
theorem scdoubting : FnScope ["moves", "whole"] ["moves", "whole"] (defScope sDoubting) := ⟨rfl, rfl, rfl, by decide +kernel, rfl, by decide +kernel, by decide +kernel⟩
theorem ok_doubting {f o : Addr} {fd : FuncData} {ods : List (Str × V)} (F : FnP K "doubting" sDoubting f fd) (c : Cal P w K mg base CX0 "_first_deed" 1 ["order", "moves"] (spFirst K)) (hg : mg "DOUBTING" = some (.ref o)) (O : OrdT K o ods) : FnOk P w K mg base CX0 2 f fd ["moves", "whole"] (spMv K ods) := by
  refine F.ok scdoubting (fun vs H Q E h => ?_) (fun cdv A outer s H vs Q E hr h => ?_)
  · obtain ⟨m, b, ms, rfl, _⟩ := h
    rfl
  · obtain ⟨m, b, ms, rfl, hm, k⟩ := h
    refine ⟨_, PSs.nox (pss_one (ps_ret (pe_cal c hr (pa_cons (pe_glob (v := .ref o) rfl hg rfl) (pa_cons (pv 0) pa_nil))))), ?_⟩
    exact ⟨_, rfl, o, m, ods, ms, rfl, O, hm, k⟩
def ddV (z : Str) : V := if z = "stays" then .str "change" else if z = "leaves" then .str "take" else .str "put"
def three : List Str := ["stays", "leaves", "enters"]
def spDue (K : PySem.W.Frag) : Sp := fun vs H Q _ => ∃ (m : Addr) (a b c : Str) (ms : List Str), vs = [.ref m, .str a, .str b, .str c] ∧ a ∈ three ∧ b ∈ three ∧ c ∈ three ∧ SqT K H m (ms.map V.str) ∧ ∀ G, Same H G → Q (firstD [(a, ddV a), (b, ddV b), (c, ddV c)] ms) G
abbrev ddD : List (Key × V) := [(.inr "stays", .str "change"), (.inr "leaves", .str "take"), (.inr "enters", .str "put")]
theorem dd_at {z : Str} (h : z ∈ three) : valV (mergeK [] ddD) (.inr z) = some (ddV z) := by
  rcases List.mem_cons.mp h with rfl | h
  · rfl
  rcases List.mem_cons.mp h with rfl | h
  · rfl
  rcases List.mem_cons.mp h with rfl | h
  · rfl
  cases h
theorem seqT_same {H G : Hp} {a : Addr} {xs : List V} (s : Same H G) (h : SqT K H a xs) : SqT K G a xs := by
  rcases h with (h | ⟨o, h⟩) | h
  · exact .inl (.inl (s _ _ h))
  · exact .inl (.inr ⟨o, s _ _ h⟩)
  · exact .inr h
theorem scDue : FnScope ["row", "first", "second", "third", "move"] ["row", "first", "second", "third"] (defScope sDue) := ⟨rfl, rfl, rfl, by decide +kernel, rfl, by decide +kernel, by decide +kernel⟩
theorem ok_due {f : Addr} {fd : FuncData} (F : FnP K "_law_due" sDue f fd) : FnOk P w K mg base CX0 1 f fd ["row", "first", "second", "third"] (spDue K) := by
  refine F.ok scDue (fun vs H Q E h => ?_) (fun cdv A outer s H vs Q E hr h => ?_)
  · obtain ⟨m, a, b, c, ms, rfl, _⟩ := h
    rfl
  · obtain ⟨m, a, b, c, ms, rfl, ha, hb, hc, hm, k⟩ := h
    have nd := scDue.nd
    have hu := hu_of hr
    refine ⟨_, PSs.nox (pss_cons (ps_for PassesOwn.never rfl (pi_list (pe_lst (pa_cons (pv 1) (pa_cons (pv 2) (pa_cons (pv 3) pa_nil))))) (pg_name (i := 4) nd rfl (Or.inl rfl))
        (pss_one (ps_if (pt_cmpR op_in_seq (pv 4) (pv 0) (by rfl)) (pss_one (ps_ret (pe_dget hu (pe_disp (pps_cons pe_str pe_str (pps_cons pe_str pe_str (pps_cons pe_str pe_str pps_nil))) (by rfl) (by rfl) (fun z => by cases z) (by decide)) (pv 4) (fun _ _ => rfl)))) pss_nil)))
      (pss_one (ps_ret pe_non))), ?_⟩
    refine ⟨_, rfl, _, rfl, _, rfl, (by show 3 ≤ sizeLine; decide), fun l nl => ⟨l, rfl, ⟨_, SqL.of upd_same⟩, ?_⟩⟩
    have sl : Same H (upd H l (.lst [.str a, .str b, .str c])) := Lw.Same.new (Same.refl H) nl
    have hml := seqT_same sl hm
    refine for_list (xs := ([a, b, c] : List Str).map V.str) (fun i σ G => upd H l (.lst [.str a, .str b, .str c]) = G ∧ (∃ v : Option V, σ = [some (.ref m), some (.str a), some (.str b), some (.str c), v]) ∧ firstD (([a, b, c].drop i).map fun z => (z, ddV z)) ms = firstD [(a, ddV a), (b, ddV b), (c, ddV c)] ms) ⟨rfl, ⟨_, rfl⟩, rfl⟩ (fun i σ G _ ⟨e, _⟩ => e ▸ SqL.of upd_same) ?_ ?_
    · rintro i x σ G hx ⟨rfl, ⟨v, rfl⟩, e⟩
      rw [List.getElem?_map] at hx
      obtain ⟨z, hz, rfl⟩ := Option.map_eq_some_iff.mp hx
      have hz3 : z ∈ three := by
        have := List.mem_of_getElem? hz
        simp only [List.mem_cons, List.not_mem_nil, or_false] at this
        rcases this with rfl | rfl | rfl <;> assumption
      have hi := (List.getElem?_eq_some_iff.mp hz).1
      have hd := List.drop_eq_getElem_cons hi
      rw [(List.getElem?_eq_some_iff.mp hz).2] at hd
      rw [hd, List.map_cons] at e
      refine g_name ?_
      refine ⟨_, rfl, _, rfl, m, _, rfl, .inr hml, rfl, flat_strs _, _, rfl, str_mem (fun hin => ?_) (fun hni => ?_)⟩
      · refine fun d nd' => ⟨upd_same, ddD, rfl, (by show 3 ≤ 15; decide), _, rfl, d, ddV z, rfl, dd_at hz3 ▸ DGet.k (k := .inr z) upd_same, ?_⟩
        have e2 : firstD ((z, ddV z) :: ([a, b, c].drop (i + 1)).map fun z => (z, ddV z)) ms = ddV z := if_pos hin
        rw [← e2, e]
        refine k _ (sl.trans fun b' o h => ?_)
        rw [upd_ne (ne_of_none h nd'), upd_ne (ne_of_none h nd')]
        exact h
      · refine ⟨rfl, ⟨_, rfl⟩, ?_⟩
        rw [← e]
        exact (if_neg hni).symm
    · rintro σ G ⟨rfl, ⟨v, rfl⟩, e⟩
      rw [List.drop_eq_nil_of_le (by simp)] at e
      rw [← e] at k
      exact k _ sl
end
end Lw

set_option Elab.async false
set_option linter.all false
set_option maxRecDepth 100000
set_option maxHeartbeats 4000000
namespace Lw
open PySem PySem.Spec PyProof.Rows L2

abbrev sLaw : Stmt := top 11
section
variable {P : Program} {w : World} {K : PySem.W.Frag} {mg : Str → Option Value} {base : Heap}
abbrev four : List Str := ["stays", "leaves", "enters", "away"]
def Row (H : Hp) (v : V) : Prop := ∃ (p m : Addr) (b : Bool) (ms : List Str), v = .ref p ∧ H p = some (.tup [.ref m, .bl b]) ∧ H m = some (.tup (ms.map V.str))
theorem Row.same {H G : Hp} (s : Same H G) {v : V} (h : Row H v) : Row G v := by
  obtain ⟨p, m, b, ms, e, h1, h2⟩ := h
  exact ⟨p, m, b, ms, e, s _ _ h1, s _ _ h2⟩
theorem Row.keep {a : Addr} {H G : Hp} {n : Nat} (hs : Src H a n) (s : Keep a H G) {v : V} (h : Row H v) : Row G v := by
  obtain ⟨p, m, b, ms, e, h1, h2⟩ := h
  obtain ⟨_, _, _, ha, _⟩ := hs
  exact ⟨p, m, b, ms, e, s _ _ (fun z => by subst z; rw [ha] at h1; cases h1) h1, s _ _ (fun z => by subst z; rw [ha] at h2; cases h2) h2⟩
def spLaw (K : PySem.W.Frag) : Sp := fun vs H Q _ => ∃ (a : Addr) (ns : List Int), vs = [.ref a] ∧ SqL K H a (ns.map V.int) ∧ ns.length ≤ 63 ∧ ∀ H', Q (.bl true) H'
abbrev nLaw : List Str := ["script", "source", "kinds", "number", "row", "turn", "is_whole", "by_trust", "by_doubt", "k", "move"]
structure Cals (P : Program) (w : World) (K : PySem.W.Frag) (mg : Str → Option Value) (base : Heap) : Prop where
  src : Cal P w K mg base CX0 "_law_source" 1 ["script", "at"] (spSource K)
  draw : Cal P w K mg base CX0 "_law_draw" 1 ["source", "many"] spDrawW
  due : Cal P w K mg base CX0 "_law_due" 1 ["row", "first", "second", "third"] (spDue K)
  tr : Cal P w K mg base CX0 "trusting" 2 ["moves", "whole"] (spMv K trO)
  db : Cal P w K mg base CX0 "doubting" 2 ["moves", "whole"] (spMv K dbO)
  range : mg "range" = none
  len : mg "len" = none
  tuple : mg "tuple" = none
  enum : mg "enumerate" = none
structure KwC (P : Program) (w : World) (K : PySem.W.Frag) (mg : Str → Option Value) (base : Heap) (x : Str) (sp : Sp) : Prop where
  ex : ∃ f fd, mg x = some (.ref f) ∧ PySem.W.keepIn K (.ref f) = true ∧ FnOk P w K mg base CX0 2 f fd ["moves", "whole"] sp ∧ KBn K fd ["moves", "whole"] 0 ["whole", "moves"] (fun _ ws => ws.reverse) (fun _ zs => zs.reverse)
theorem trust_due (ms : List Str) : firstD trO ms = firstD [("stays", ddV "stays"), ("leaves", ddV "leaves"), ("enters", ddV "enters")] ms := by
  have e1 : ddV "stays" = .str "change" := rfl
  have e2 : ddV "leaves" = .str "take" := rfl
  have e3 : ddV "enters" = .str "put" := rfl
  rw [e1, e2, e3]
  show firstD (_ :: _ :: _ :: _ :: []) ms = firstD (_ :: _ :: _ :: []) ms
  simp only [firstD]
  repeat' split
  all_goals rfl
theorem doubt_due (ms : List Str) : firstD dbO ms = firstD [("enters", ddV "enters"), ("stays", ddV "stays"), ("leaves", ddV "leaves")] ms := by
  have e1 : ddV "stays" = .str "change" := rfl
  have e2 : ddV "leaves" = .str "take" := rfl
  have e3 : ddV "enters" = .str "put" := rfl
  rw [e1, e2, e3]
  show firstD (_ :: _ :: _ :: _ :: []) ms = firstD (_ :: _ :: _ :: []) ms
  simp only [firstD]
  repeat' split
  all_goals rfl
/-- a text or None -/
def SN (v : V) : Prop := (∃ z, v = .str z) ∨ v = .non
theorem snS {v : V} (h : SN v) : scal v v = true := by
  rcases h with ⟨z, rfl⟩ | rfl <;> rfl
theorem first_sn : ∀ (ods : List (Str × V)) (ms : List Str), (∀ q ∈ ods, SN q.2) → SN (firstD ods ms)
  | [], _, _ => .inr rfl
  | (m, d) :: r, ms, h => by
    show SN (if m ∈ ms then d else firstD r ms)
    split
    · exact h (m, d) List.mem_cons_self
    · exact first_sn r ms fun q hq => h q (List.mem_cons_of_mem _ hq)
theorem scLaw : FnScope nLaw ["script"] (defScope sLaw) := ⟨rfl, rfl, rfl, by decide +kernel, rfl, by decide +kernel, by decide +kernel⟩
theorem ok_law {f : Addr} {fd : FuncData} (F : FnP K "law" sLaw f fd) (c : Cals P w K mg base) (kt : KwC P w K mg base "trusting" (spMv K trO)) (kd : KwC P w K mg base "doubting" (spMv K dbO)) : FnOk P w K mg base CX0 3 f fd ["script"] (spLaw K) := by
  obtain ⟨ft, fdt, mt, kpt, Ft, bt⟩ := kt
  obtain ⟨fb, fdb, mb, kpb, Fb, bb⟩ := kd
  refine F.ok scLaw (fun vs H Q E h => ?_) (fun cdv A outer s0 H vs Q E hr h => ?_)
  · obtain ⟨a, ns, rfl, _⟩ := h
    rfl
  · obtain ⟨a, ns, rfl, hS, hlen, k⟩ := h
    have nd := scLaw.nd
    have h1 : Room 1 _ := hr.mono (by decide)
    have h2 : Room 2 _ := hr.mono (by decide)
    have hu := hu_of hr
    refine ⟨_, PSs.nox (pss_cons (ps_set (i := 1) nd rfl (Or.inl rfl) (pe_cal c.src h1 (pa_cons (pv 0) (pa_cons pe_int pa_nil))))
      (pss_cons (ps_set (i := 2) nd rfl (Or.inl rfl) (pe_lst pa_nil))
      (pss_cons (ps_for PassesOwn.never rfl (pi_range2 rfl c.range (pa_cons pe_int (pa_cons pe_int pa_nil))) (pg_name (i := 3) nd rfl (Or.inr rfl))
        (pss_cons (ps_setLc (i := 4) (own := [("k", 9), ("move", 10)]) (g := gTup K 2 (gCons (gName 9) (gCons (gName 10) gNil))) rfl nd rfl rfl (sw_true rfl rfl rfl (by decide +kernel)) (pi_enum (by rfl) c.enum (pa_cons (pe_lst (pa_cons pe_str (pa_cons pe_str (pa_cons pe_str (pa_cons pe_str pa_nil))))) pa_nil)) (blkOk_by (N := nLaw) (sc := defScope sLaw) (by decide +kernel))
          (fun _ _ _ _ _ => pg_tup (by rfl) (pgs_cons (pg_name (i := 9) nd rfl (Or.inl rfl)) (pgs_cons (pg_name (i := 10) nd rfl (Or.inl rfl)) pgs_nil)))
          (fun _ _ _ _ _ => pts_one (pt_cmpR op_eq (pe_op op_modN (pe_op op_fdivN (pv 3) (pe_ix (r := rIxL K) (by exact ix_list) (pe_lst (pa_cons pe_int (pa_cons pe_int (pa_cons pe_int (pa_cons pe_int pa_nil))))) (pv 9) (fun _ _ => rfl))) pe_int) pe_int (nomark _))) (fun _ _ _ _ _ => pv 10))
        (pss_one (ps_set (i := 2) nd rfl (Or.inl rfl) (pe_op op_cat (pv 2) (pe_lst (pa_cons (pe_tup (pa_cons (pe_callTy call_tuple_of (by rfl) c.tuple (by decide +kernel) (pa_cons (pv 4) pa_nil)) (pa_cons pe_bl pa_nil)))
          (pa_cons (pe_tup (pa_cons (pe_callTy call_tuple_of (by rfl) c.tuple (by decide +kernel) (pa_cons (pv 4) pa_nil)) (pa_cons pe_bl pa_nil))) pa_nil))))))))
      (pss_cons (ps_set (i := 5) nd rfl (Or.inl rfl) (pe_cal c.draw h1 (pa_cons (pv 1) (pa_cons (pe_callB call_len_seq (by rfl) c.len PySem.boot_len (pa_cons (pv 2) pa_nil)) pa_nil))))
      (pss_cons (ps_for PassesOwn.never rfl (pi_list (pe_op op_cat (pe_op op_cat (pe_slice sl_list (pv 2) (po_some (pv 5)) po_none) (pv 2)) (pe_revL (pv 2)))) (pg_tup (by rfl) (pgs_cons (pg_name (i := 4) nd rfl (Or.inl rfl)) (pgs_cons (pg_name (i := 6) nd rfl (Or.inl rfl)) pgs_nil)))
        (pss_cons (ps_par (i := 7) (j := 8) (by rfl) nd rfl rfl (by decide) rfl rfl (pa_cons (pe_cal c.tr h2 (pa_cons (pv 4) (pa_cons (pv 6) pa_nil))) (pa_cons (pe_cal c.db h2 (pa_cons (pv 4) (pa_cons (pv 6) pa_nil))) pa_nil)) (by rfl))
        (pss_cons (ps_if (pt_cmpR op_ne (pv 7) (pe_cal c.due h1 (pa_cons (pv 4) (pa_cons pe_str (pa_cons pe_str (pa_cons pe_str pa_nil))))) (nomark _)) (pss_one (ps_ret pe_bl)) pss_nil)
        (pss_cons (ps_if (pt_cmpR op_ne (pv 8) (pe_cal c.due h1 (pa_cons (pv 4) (pa_cons pe_str (pa_cons pe_str (pa_cons pe_str pa_nil))))) (nomark _)) (pss_one (ps_ret pe_bl)) pss_nil)
        (pss_one (ps_if (PW.pt (pw_or (pt_cmpR op_ne (pe_callKS Ft h2 mt kpt bt pass0S (pk_cons (pv 6) (pk_cons (pv 4) pk_nil))) (pv 7) (nomark _)) (pw_or1 (pt_cmpR op_ne (pe_callKS Fb h2 mb kpb bb pass0S (pk_cons (pv 6) (pk_cons (pv 4) pk_nil))) (pv 8) (nomark _))))) (pss_one (ps_ret pe_bl)) pss_nil))))))
      (pss_one (ps_ret pe_bl))))))), ?_⟩
    refine sq_set (fun x H1 => ∃ p, x = .ref p ∧ Src H1 p 0) (fun Q q => ⟨_, rfl, a, ns, 0, rfl, hS, by omega, by decide, by decide, fun p H1 np s1 hs => q _ _ ⟨p, rfl, hs⟩⟩) ?_
    rintro _ H1 ⟨p, rfl, S1⟩
    refine sq_set (fun x H2 => ∃ l, x = .ref l ∧ H2 l = some (.lst []) ∧ Src H2 p 0) (fun Q q => ⟨(by show 0 ≤ sizeLine; decide), fun l nl => q _ _ ⟨l, rfl, upd_same, S1.new nl⟩⟩) ?_
    rintro _ H2 ⟨l, rfl, hl, S2⟩
    refine ⟨_, _, rfl, ⟨by decide, by decide, by decide, by decide⟩, ?_⟩
    refine for_range (lo := 1) (fun i σ G => ∃ (kl : Addr) (v3 v4 v5 v6 v7 v8 v9 v10 : Option V) (xs : List V), σ = [some (.ref a), some (.ref p), some (.ref kl), v3, v4, v5, v6, v7, v8, v9, v10] ∧ G kl = some (.lst xs) ∧ xs.length = 2 * i ∧ (∀ x ∈ xs, Row G x) ∧ Src G p 0) ⟨l, _, _, _, _, _, _, _, _, [], rfl, hl, rfl, (fun x h => by cases h), S2⟩ ?_ ?_
    · rintro i σ G hi ⟨kl, v3, v4, v5, v6, v7, v8, v9, v10, xs, rfl, hk, hx, hrow, SG⟩
      have hi2 : i < 15 := hi
      refine g_name ?_
      refine sq_set (fun x G1 => ∃ (D : Addr) (ms : List Str), x = .ref D ∧ Same G G1 ∧ G1 D = some (.lst (ms.map V.str))) (fun Q q => ?_) ?_
      · refine ⟨(by show 4 ≤ sizeLine; decide), fun L nL => ⟨L, _, rfl, SqL.of upd_same, fun D nD => ?_⟩⟩
        have sL : Same G (upd G L (.lst [.str "stays", .str "leaves", .str "enters", .str "away"])) := Lw.Same.new (Same.refl G) nL
        have hL : (upd G L (.lst [.str "stays", .str "leaves", .str "enters", .str "away"])) L = some (.lst (four.map V.str)) := upd_same
        generalize upd G L (.lst [.str "stays", .str "leaves", .str "enters", .str "away"]) = G1 at sL nD hL ⊢
        refine lc_it (walk_enum (xs := four.map V.str)) (fun j H' => ∃ acc : List Str, H' D = some (.lst (acc.map V.str)) ∧ acc.length ≤ j ∧ Same G1 H') ⟨[], upd_same, Nat.le_refl _, Lw.Same.new (Same.refl _) nD⟩ (fun j H' _ ⟨_, _, _, s⟩ => SqL.of (s _ _ hL)) ?_ ?_
        · rintro j x H3 H4 hj ⟨acc, h1, h2, h3⟩ ⟨t, x0, x1, rfl, nt, rfl, q1, q2⟩
          cases q1
          have hj4 : j < 4 := hj
          have q3 : (four.map V.str)[j]? = some x1 := q2
          rw [List.getElem?_map] at q3
          obtain ⟨z, hz, rfl⟩ := Option.map_eq_some_iff.mp q3
          have s4 : Same H3 (upd H3 t (.tup [.int (j : Nat), .str z])) := Lw.Same.new (Same.refl _) nt
          refine ⟨t, _, rfl, SqT.of upd_same, rfl, _, _, rfl, _, _, rfl, rfl, rfl, ?_⟩
          generalize upd H3 t (.tup [.int (j : Nat), .str z]) = H5 at s4 ⊢
          refine ⟨_, rfl, (by show 4 ≤ sizeLine; decide), fun B nB => ?_⟩
          obtain ⟨v, hv, hm⟩ := atI_get (xs := ([1, 2, 4, 8] : List Int).map V.int) (i := (j : Int)) (by omega) (by show (j : Int) < 4; omega)
          obtain ⟨e, he, rfl⟩ := List.mem_map.mp hm
          have he2 : e ≠ 0 ∧ e.natAbs < 1073741824 := by
            simp only [List.mem_cons, List.not_mem_nil, or_false] at he
            omega
          have s5 : Same H3 (upd H5 B (.lst [.int 1, .int 2, .int 4, .int 8])) := s4.trans (Lw.Same.new (Same.refl _) nB)
          refine ⟨_, rfl, B, _, _, _, rfl, rfl, SqL.of upd_same, hv, _, _, rfl, rfl, he2, _, _, rfl, rfl, (by show (2 : Int) ≠ 0; decide), rfl, _, rfl, ?_⟩
          refine bool_ite (fun _ => ?_) (fun _ => ?_)
          · refine ⟨_, rfl, acc.map V.str, s5 _ _ h1, ?_, acc ++ [z], ?_, ?_, ?_⟩
            · rw [List.length_map]
              have : sizeLine = 16777216 := by decide
              omega
            · rw [upd_same, List.map_append]; rfl
            · rw [List.length_append]; show acc.length + 1 ≤ j + 1; omega
            · exact same_at nD (h3.trans s5)
          · exact ⟨acc, s5 _ _ h1, by omega, h3.trans s5⟩
        · rintro H' ⟨acc, h1, _, h3⟩
          exact q _ _ ⟨D, acc, rfl, sL.trans h3, h1⟩
      rintro _ G1 ⟨D, ms, rfl, s1, hD⟩
      refine s1_set (fun x G2 => ∃ (k2 : Addr) (ys : List V), x = .ref k2 ∧ G2 k2 = some (.lst ys) ∧ ys.length = 2 * (i + 1) ∧ (∀ x ∈ ys, Row G2 x) ∧ Src G2 p 0) (fun Q q => ?_) ?_
      · refine ⟨_, rfl, _, rfl, D, _, rfl, .inl ⟨SqL.of hD, fun t1 n1 => ⟨(by show 2 ≤ sizeLine; decide), fun u1 m1 => ?_⟩⟩⟩
        have a1 := (Lw.Same.new (o := .tup (ms.map V.str)) (Same.refl G1) n1)
        have a2 := a1.trans (Lw.Same.new (o := .tup [.ref t1, .bl true]) (Same.refl _) m1)
        have r1 : Row (upd (upd G1 t1 (.tup (ms.map V.str))) u1 (.tup [.ref t1, .bl true])) (.ref u1) := ⟨u1, t1, true, ms, rfl, upd_same, (Lw.Same.new (Same.refl _) m1) _ _ upd_same⟩
        generalize upd (upd G1 t1 (.tup (ms.map V.str))) u1 (.tup [.ref t1, .bl true]) = G3 at a2 r1 ⊢
        refine ⟨_, rfl, D, _, rfl, .inl ⟨SqL.of (a2 _ _ hD), fun t2 n2 => ⟨(by show 2 ≤ sizeLine; decide), fun u2 m2 => ?_⟩⟩⟩
        have a3 := (Lw.Same.new (o := .tup (ms.map V.str)) (Same.refl G3) n2)
        have a4 := a3.trans (Lw.Same.new (o := .tup [.ref t2, .bl false]) (Same.refl _) m2)
        have r2 : Row (upd (upd G3 t2 (.tup (ms.map V.str))) u2 (.tup [.ref t2, .bl false])) (.ref u2) := ⟨u2, t2, false, ms, rfl, upd_same, (Lw.Same.new (Same.refl _) m2) _ _ upd_same⟩
        generalize upd (upd G3 t2 (.tup (ms.map V.str))) u2 (.tup [.ref t2, .bl false]) = G4 at a4 r2 ⊢
        refine ⟨(by show 2 ≤ sizeLine; decide), fun L nL => ?_⟩
        have a5 := a4.trans (Lw.Same.new (o := .lst [.ref u1, .ref u2]) (Same.refl _) nL)
        have aL := (s1.trans a2).trans a5
        refine ⟨kl, L, xs, _, rfl, rfl, aL _ _ hk, upd_same, ?_, fun z nz => ?_⟩
        · show xs.length + 2 ≤ sizeLine
          have : sizeLine = 16777216 := by decide
          omega
        · have a6 := Lw.Same.new (o := .lst (xs ++ [.ref u1, .ref u2])) (Same.refl _) nz
          refine q _ _ ⟨z, _, rfl, upd_same, ?_, fun x hx' => ?_, (SG.same (aL.trans a6))⟩
          · rw [List.length_append, hx]; show 2 * i + 2 = _; omega
          · rcases List.mem_append.mp hx' with h | h
            · exact (hrow x h).same (aL.trans a6)
            · simp only [List.mem_cons, List.not_mem_nil, or_false] at h
              rcases h with rfl | rfl
              · exact r1.same (a5.trans a6)
              · exact (r2.same (Lw.Same.new (Same.refl _) nL)).same a6
      rintro _ G2 ⟨k2, ys, rfl, hk2, hy, hrow2, SG2⟩
      exact ⟨k2, _, _, _, _, _, _, _, _, ys, rfl, hk2, hy, hrow2, SG2⟩
    · rintro σ G ⟨kl, v3, v4, v5, v6, v7, v8, v9, v10, xs, rfl, hk, hx, hrow, SG⟩
      have hx30 : xs.length = 30 := hx
      have hsz : sizeLine = 16777216 := by decide
      dsimp only
      refine sq_set (fun x G1 => ∃ t : Int, x = .int t ∧ G1 kl = some (.lst xs) ∧ ∀ x ∈ xs, Row G1 x) (fun Q q => ?_) ?_
      · refine ⟨_, rfl, _, rfl, kl, _, rfl, .inl (SqL.of hk), p, 0, _, rfl, SG, by decide, by omega, small_m (by omega), fun G1 t kp sr _ _ => q _ _ ⟨t, rfl, kp _ _ ?_ hk, fun x h => (hrow x h).keep SG kp⟩⟩
        obtain ⟨_, _, _, ha, _⟩ := SG
        exact fun z => by subst z; rw [ha] at hk; cases hk; cases hx
      rintro _ G1 ⟨t, rfl, hk1, hrow1⟩
      refine ⟨_, rfl, _, rfl, t, rfl, kl, xs, rfl, SqL.of hk1, fun c1 n1 => ?_⟩
      have b1 := Lw.Same.new (o := .lst (cutV xs (some t) none)) (Same.refl G1) n1
      have c1l := cutV_length xs (some t) none
      refine ⟨_, rfl, c1, kl, _, xs, rfl, rfl, upd_same, b1 _ _ hk1, by omega, fun d1 n2 => ?_⟩
      have b2 := Lw.Same.new (o := .lst (cutV xs (some t) none ++ xs)) (Same.refl _) n2
      refine ⟨_, rfl, kl, xs, rfl, SqL.of (b2 _ _ (b1 _ _ hk1)), fun r1 n3 => ?_⟩
      have b3 := Lw.Same.new (o := .lst xs.reverse) (Same.refl _) n3
      refine ⟨d1, r1, _, _, rfl, rfl, b3 _ _ upd_same, upd_same, ?_, fun e1 n4 => ⟨e1, rfl, ⟨_, SqL.of upd_same⟩, ?_⟩⟩
      · rw [List.length_append, List.length_reverse]; omega
      have b4 := Lw.Same.new (o := .lst (cutV xs (some t) none ++ xs ++ xs.reverse)) (Same.refl _) n4
      have b := ((b1.trans b2).trans b3).trans b4
      have hrow4 : ∀ x ∈ cutV xs (some t) none ++ xs ++ xs.reverse, x ∈ xs := fun x hx => by
        rcases List.mem_append.mp hx with h | h
        · rcases List.mem_append.mp h with h | h
          · unfold cutV at h
            exact List.mem_of_mem_drop (List.mem_of_mem_take h)
          · exact h
        · exact List.mem_reverse.mp h
      have hrow5 : ∀ x ∈ cutV xs (some t) none ++ xs ++ xs.reverse, Row _ x := fun x hx => (hrow1 x (hrow4 x hx)).same b
      have hl5 : (upd (upd (upd (upd G1 c1 (.lst (cutV xs (some t) none))) d1 (.lst (cutV xs (some t) none ++ xs))) r1 (.lst xs.reverse)) e1 (.lst (cutV xs (some t) none ++ xs ++ xs.reverse))) e1 = some (.lst (cutV xs (some t) none ++ xs ++ xs.reverse)) := upd_same
      generalize cutV xs (some t) none ++ xs ++ xs.reverse = zs at hrow5 hl5 ⊢
      generalize upd (upd (upd (upd G1 c1 (.lst (cutV xs (some t) none))) d1 (.lst (cutV xs (some t) none ++ xs))) r1 (.lst xs.reverse)) e1 (.lst zs) = G5 at hrow5 hl5 ⊢
      refine for_list (xs := zs) (fun i σ G => Same G5 G ∧ ∃ (v4 v6 v7 v8 : Option V), σ = [some (.ref a), some (.ref p), some (.ref kl), v3, v4, some (.int t), v6, v7, v8, v9, v10]) ⟨Same.refl _, _, _, _, _, rfl⟩ (fun i σ G _ ⟨s, _⟩ => SqL.of (s _ _ hl5)) ?_ ?_
      · rintro i x σ G hx ⟨s, v4, v6, v7, v8, rfl⟩
        obtain ⟨p', m, b', ms, rfl, hp', hm⟩ := (hrow5 x (List.mem_of_getElem? hx)).same s
        refine ⟨p', _, rfl, SqT.of hp', rfl, _, _, rfl, _, _, rfl, rfl, ?_⟩
        refine sq_par (fun x y G' => G = G' ∧ x = firstD trO ms ∧ y = firstD dbO ms) (fun Q q => ⟨_, rfl, _, rfl, m, b', ms, rfl, SqT.of hm, _, rfl, _, rfl, m, b', ms, rfl, SqT.of hm, q _ _ _ ⟨rfl, rfl, rfl⟩⟩) ?_
        rintro _ _ _ ⟨rfl, rfl, rfl⟩
        have e1 := trust_due ms
        have e2 := doubt_due ms
        have f1 : SN (firstD trO ms) := first_sn _ _ (by intro q hq; rcases List.mem_cons.mp hq with rfl | hq; exact .inl ⟨_, rfl⟩; rcases List.mem_cons.mp hq with rfl | hq; exact .inl ⟨_, rfl⟩; rcases List.mem_cons.mp hq with rfl | hq; exact .inl ⟨_, rfl⟩; rcases List.mem_cons.mp hq with rfl | hq; exact .inr rfl; cases hq)
        have f2 : SN (firstD dbO ms) := first_sn _ _ (by intro q hq; rcases List.mem_cons.mp hq with rfl | hq; exact .inl ⟨_, rfl⟩; rcases List.mem_cons.mp hq with rfl | hq; exact .inl ⟨_, rfl⟩; rcases List.mem_cons.mp hq with rfl | hq; exact .inl ⟨_, rfl⟩; rcases List.mem_cons.mp hq with rfl | hq; exact .inr rfl; cases hq)
        refine sq_if1 (fun b' G' => Same G G' ∧ b' = false) (fun Q q => ?_) ?_ ?_
        · refine ⟨_, rfl, _, rfl, m, "stays", "leaves", "enters", ms, rfl, by decide, by decide, by decide, SqT.of hm, fun G' s' => ?_⟩
          rw [← e1]
          exact ⟨snS f1, _, rfl, q _ _ ⟨s', by simp⟩⟩
        · rintro G' ⟨_, h⟩
          cases h
        rintro G1 ⟨g1, _⟩
        have hm1 := g1 _ _ hm
        refine sq_if1 (fun b' G' => Same G1 G' ∧ b' = false) (fun Q q => ?_) ?_ ?_
        · refine ⟨_, rfl, _, rfl, m, "enters", "stays", "leaves", ms, rfl, by decide, by decide, by decide, SqT.of hm1, fun G' s' => ?_⟩
          rw [← e2]
          exact ⟨snS f2, _, rfl, q _ _ ⟨s', by simp⟩⟩
        · rintro G' ⟨_, h⟩
          cases h
        rintro G2 ⟨g2, _⟩
        have hm2 := g2 _ _ hm1
        refine ⟨_, rfl, _, rfl, rfl, m, b', ms, rfl, SqT.of hm2, _, rfl, snS f1, _, rfl, it_bf (by simp) ?_⟩
        refine ⟨_, rfl, _, rfl, rfl, m, b', ms, rfl, SqT.of hm2, _, rfl, snS f2, _, rfl, it_bf (by simp) ?_⟩
        exact ⟨((s.trans g1).trans g2), _, _, _, _, rfl⟩
      · rintro σ G ⟨s, v4, v6, v7, v8, rfl⟩
        exact k G
end
end Lw

set_option Elab.async false
set_option linter.all false
set_option maxRecDepth 100000
set_option maxHeartbeats 0
namespace Lw
open PySem PySem.Spec PyProof.Rows L2
def fn : List He5.DefA := [dG "trusting" sTrusting, dG "doubting" sDoubting, dG "_first_deed" sFirst, dG "_law_source" sSource, dG "_law_draw" sDraw, dG "_law_due" sDue, dG "law" sLaw]
def glos : List Str := ["TRUSTING", "DOUBTING", "trusting", "doubting", "_first_deed", "_law_source", "_law_draw", "_law_due", "law"]
def frees : List Str := ["len", "abs", "int", "range", "tuple", "enumerate"]
def fa : List He.Fa := glos.map He.Fa.glo ++ frees.map He.Fa.free
def own (K : PySem.W.Frag) : Bool := ordB K (He.ga K "TRUSTING") trO && ordB K (He.ga K "DOUBTING") dbO
abbrev R : PySem.W.OpenRow := PySem.W.OpenLaw.row PySem.Challenge.rw_filteredcopies_k44_rules_of_moves
abbrev qv : Program := PySem.W.view R.prog [11]
def names : List Str := ["TRUSTING", "DOUBTING", "trusting", "doubting", "_first_deed", "_law_source", "_law_draw", "_law_pick", "_law_due"]
abbrev hk : PySem.W.Hook := Hc.hook 6 fa fn own
def ob (s : PySem.W.SharedT) : Hc.Al := Hc.obG 6 fa fn own (HandSHeadRun.getT s)
theorem ob_eq (s : PySem.W.SharedT) : ob s = hk.obs s.abs := Hc.obG_eq (HandSHeadRun.getT_eq s)
theorem run (w : World) : HandSHeadRun.RunEq R qv hk ob 9000 names w :=
  PySem.W.byRow2 "special-get-raises" (P := fun w => HandSHeadRun.RunEq R qv hk ob 9000 names w) (fun w => by intro os; kernel_rfl) (fun w => by intro os; kernel_rfl) w
end Lw

set_option Elab.async false
set_option linter.all false
set_option maxRecDepth 100000
set_option maxHeartbeats 4000000
namespace Lw
open PySem PySem.Spec PyProof.Rows L2
section
variable {K : PySem.W.Frag} {h : Heap} {mg : Str → Option Value}
theorem f_glo (X : K.In h) (G : h.Ns mainGlobals mg) (c : Hc.Says fa fn own K) {x : Str} (hx : x ∈ glos) : mg x = some (.ref (He.ga K x)) :=
  He.glo_ok X G (c.fact (f := .glo x) (List.mem_append_left _ (List.mem_map_of_mem hx)))
theorem f_free (X : K.In h) (G : h.Ns mainGlobals mg) (c : Hc.Says fa fn own K) {x : Str} (hx : x ∈ frees) : mg x = none :=
  He.free_ok X G (c.fact (f := .free x) (List.mem_append_right _ (List.mem_map_of_mem hx)))
end
theorem facts {P : Program} {w : World} {K : PySem.W.Frag} {h : Heap} {mg : Str → Option Value} {f : Addr} (X : K.In h) (G : h.Ns mainGlobals mg) (hfa : mg ("law" : Str) = some (.ref f)) (c : Hc.Says fa fn own K) :
    ∃ fd : FuncData, (∀ (s : Shared) (v : Value), BindsTo s fd ⟨[v], []⟩ [("script", v)]) ∧ ∀ base : Heap, K.In base → base.Ns mainGlobals mg → FnOk P w K mg base CX0 3 f fd ["script"] (spLaw K) := by
  have gl : ∀ {x : Str}, x ∈ glos → mg x = some (.ref (He.ga K x)) := fun hx => f_glo X G c hx
  have fr : ∀ {x : Str}, x ∈ frees → mg x = none := fun hx => f_free X G c hx
  obtain ⟨o1, o2⟩ := He.ba c.2
  obtain ⟨d0, D0⟩ := c.1.def_ 0 (d := dG "trusting" sTrusting) rfl
  obtain ⟨d1, D1⟩ := c.1.def_ 1 (d := dG "doubting" sDoubting) rfl
  obtain ⟨d2, D2⟩ := c.1.def_ 2 (d := dG "_first_deed" sFirst) rfl
  obtain ⟨d3, D3⟩ := c.1.def_ 3 (d := dG "_law_source" sSource) rfl
  obtain ⟨d4, D4⟩ := c.1.def_ 4 (d := dG "_law_draw" sDraw) rfl
  obtain ⟨d5, D5⟩ := c.1.def_ 5 (d := dG "_law_due" sDue) rfl
  obtain ⟨d6, D6⟩ := c.1.def_ 6 (d := dG "law" sLaw) rfl
  have e := hfa.symm.trans (gl (x := "law") (by decide +kernel))
  cases e
  refine ⟨d6, fun s v => FunD.bindsA (ps := ["script"]) D6 (fun _ _ _ _ _ _ us hl => match us, hl with | [_], _ => rfl) s [v] rfl, fun base KB GB => ?_⟩
  have TD : TxtD mg := ⟨fr (by decide +kernel), fr (by decide +kernel), fr (by decide +kernel), fr (by decide +kernel)⟩
  have b2 : ∀ {x : Str} {st : Stmt} {f : Addr} {fd : FuncData}, FnP K x st f fd → True := fun _ => trivial
  have cF : Cal P w K mg base CX0 "_first_deed" 1 ["order", "moves"] (spFirst K) := ⟨_, _, gl (by decide +kernel), D2.kp, ok_first D2, D2.bindsN fun _ _ _ _ _ _ us hl => match us, hl with | [_, _], _ => rfl⟩
  have F0 := ok_trusting D0 cF (gl (by decide +kernel)) (ordB_ok o1)
  have F1 := ok_doubting D1 cF (gl (by decide +kernel)) (ordB_ok o2)
  refine ok_law D6 ⟨⟨_, _, gl (by decide +kernel), D3.kp, ok_source D3 TD, D3.bindsN fun _ _ _ _ _ _ us hl => match us, hl with | [_, _], _ => rfl⟩,
    cal_draw TD ⟨_, _, gl (by decide +kernel), D4⟩, ⟨_, _, gl (by decide +kernel), D5.kp, ok_due D5, D5.bindsN fun _ _ _ _ _ _ us hl => match us, hl with | [_, _, _, _], _ => rfl⟩,
    ⟨_, _, gl (by decide +kernel), D0.kp, F0, D0.bindsN fun _ _ _ _ _ _ us hl => match us, hl with | [_, _], _ => rfl⟩, ⟨_, _, gl (by decide +kernel), D1.kp, F1, D1.bindsN fun _ _ _ _ _ _ us hl => match us, hl with | [_, _], _ => rfl⟩,
    fr (by decide +kernel), fr (by decide +kernel), fr (by decide +kernel), fr (by decide +kernel)⟩
    ⟨_, _, gl (by decide +kernel), D0.kp, F0, kb_rel D0 vals_rev fun _ _ _ _ _ _ ws hl => match ws, hl with | [_, _], _ => rfl⟩
    ⟨_, _, gl (by decide +kernel), D1.kp, F1, kb_rel D1 vals_rev fun _ _ _ _ _ _ ws hl => match ws, hl with | [_, _], _ => rfl⟩
end Lw

open PySem PySem.W PyProof.Rows in
theorem PySem.Challenge.cw_filteredcopies_k44_rules_of_moves_holds : PySem.Challenge.rw_filteredcopies_k44_rules_of_moves.Holds := by
  w_on; o_law
  refine HandSHeadRun.head_any (r := Lw.R) (q := Lw.qv) (H := Lw.hk) (ob := Lw.ob) (M := 9000) (loose := Lw.names) (d := HandSHeadRun.topDef Lw.R.prog 11) (kwd := []) Lw.ob_eq
    (by kernel_rfl) (fun s => by kernel_rfl) Lw.run (by kernel_rfl) (by kernel_rfl) (by kernel_rfl) (by rfl) (by first | assumption | decide +kernel) (by decide +kernel) ⟨rfl, rfl, rfl, rfl, rfl, by decide +kernel⟩ ?hw ?hc
  case hw => w_witness2
  case hc =>
    refine L2.walk_ofE (l := PySem.Challenge.rw_filteredcopies_k44_rules_of_moves) (n := 63) (k := 3) (x := "script") (CX := L2.CX0) rfl (by decide) (by kernel_rfl) ⟨rfl, by decide, by decide⟩ ?F (fun _ _ _ _ z => z)
    intro w mg fa h Y G hmg0
    obtain ⟨K, KX, c⟩ := Y
    have hmg : mg ("law" : PySem.Str) = some (.ref fa) := by
      have e : (HandSHeadRun.topDef Lw.R.prog 11).name = ("law" : PySem.Str) := by kernel_rfl
      rw [← e]
      exact hmg0
    obtain ⟨fd, hb, hF⟩ := Lw.facts (P := (PySem.Challenge.rw_filteredcopies_k44_rules_of_moves).prog) (w := w) KX G hmg c
    exact ⟨K, fd, Lw.spLaw K, KX, hb, fun H a ns hl _ hS => ⟨a, ns, rfl, hS, hl, fun _ => rfl⟩, hF⟩
