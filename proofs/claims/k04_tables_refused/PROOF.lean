import PyProof.Rows.All
import Wide.All
import OpenK.AllK
import Wide.FinOn
import HandS.Base
import HandS.Call
import HandS.List
import HandS.Comp
import HandS.Dict
import HandS.Iter
import HandS.Text
import HandS.Ends
import HandS.Words
import HandS.WordsList
import HandS.Exc
import HandS.ExcOwn
import HandS.TryOnly
import HandS.ExcInit
import HandS.More
import HandS.Defaults
import HandS.Walk
import KE.KExcIs
import HandS.IsInst
import HandS.ExcIs
import HandS.ExcField
import HandS.Style
import HandS.WordsExc
import HandS.Head0
import HandS.Head1
import HandS.Head2
import HandS.HeadEnd
import HandS.HeadHook1
import HandS.HeadHook2
import HandS.HeadHook3
import HandS.ExcCtx
import HandS.HotCalls
import HandS.ClsMeth
import HandS.Star
import HandS.MakeKwOnly
import HandS.HeadNt
import PySem.Challenge.RW_filteredcopies_k04_tables_refused
set_option Elab.async false
set_option linter.all false
set_option maxRecDepth 100000
set_option maxHeartbeats 4000000
namespace Lw
open PySem PySem.Spec PyProof.Rows L2
abbrev MethD (K : PySem.W.Frag) (x q : Str) (st : Stmt) (f : Addr) (fd : FuncData) : Prop := FunD K x q (defArgs st) (defBody st) (defScope st) [] [] f fd
/-! heaps: all but what stands at a is kept -/
def Keep (a : Addr) (H H' : Hp) : Prop := ∀ b o, b ≠ a → H b = some o → H' b = some o
theorem Keep.refl {a : Addr} (H : Hp) : Keep a H H := fun _ _ _ h => h
theorem Keep.trans {a : Addr} {H H1 H2 : Hp} (x : Keep a H H1) (y : Keep a H1 H2) : Keep a H H2 := fun b o n h => y b o n (x b o n h)
theorem Keep.of_same {a : Addr} {H H' : Hp} (s : Same H H') : Keep a H H' := fun b o _ h => s b o h
theorem Keep.upd {a : Addr} {H H' : Hp} {o : HO} (k : Keep a H H') : Keep a H (upd H' a o) := fun b u n h => by
  rw [upd_ne n]
  exact k b u n h
theorem Keep.new {a p : Addr} {H H' : Hp} {o : HO} (k : Keep a H H') (hp : H' p = none) : Keep a H (L2.upd H' p o) := fun b u n h => by
  rw [upd_ne (ne_of_none (k b u n h) hp)]
  exact k b u n h
theorem Keep.seq {K : PySem.W.Frag} {a b : Addr} {H H' : Hp} {xs : List V} (k : Keep a H H') (n : b ≠ a) (h : SqL K H b xs) : SqL K H' b xs := by
  rcases h with (h | ⟨o, h⟩) | h
  · exact .inl (.inl (k _ _ n h))
  · exact .inl (.inr ⟨o, k _ _ n h⟩)
  · exact .inr h
theorem Keep.seqT {K : PySem.W.Frag} {a b : Addr} {H H' : Hp} {xs : List V} (k : Keep a H H') (n : b ≠ a) (h : SqT K H b xs) : SqT K H' b xs := by
  rcases h with (h | ⟨o, h⟩) | h
  · exact .inl (.inl (k _ _ n h))
  · exact .inl (.inr ⟨o, k _ _ n h⟩)
  · exact .inr h
/-- the drawing's source: three numbers; n bounds how often was drawn -/
def Src (H : Hp) (a : Addr) (n : Nat) : Prop := ∃ d s t : Int, H a = some (.lst [.int d, .int s, .int t]) ∧ 0 ≤ d ∧ 0 ≤ s ∧ s < 9223372036854775808 ∧ 0 ≤ t ∧ t ≤ (n : Int)
theorem Src.mono {H : Hp} {a : Addr} {n m : Nat} (h : Src H a n) (l : n ≤ m) : Src H a m := by
  obtain ⟨d, s, t, h1, h2, h3, h4, h5, h6⟩ := h
  exact ⟨d, s, t, h1, h2, h3, h4, h5, by omega⟩
theorem Src.new {H : Hp} {a p : Addr} {n : Nat} {o : HO} (h : Src H a n) (hp : H p = none) : Src (upd H p o) a n := by
  obtain ⟨d, s, t, h1, h2⟩ := h
  exact ⟨d, s, t, by rw [upd_ne (ne_of_none h1 hp)]; exact h1, h2⟩
theorem Src.ne {H : Hp} {a p : Addr} {n : Nat} (h : Src H a n) (hp : H p = none) : p ≠ a := by
  obtain ⟨d, s, t, h1, _⟩ := h
  exact (ne_of_none h1 hp).symm
abbrev big : Nat := 1000000000
/-! steps: a statement's reading by what its expression comes to -/
section
variable {te : TE} {c : TT} {u v t1 t2 : TS} {D : Ends} {σ : L2.St} {H : Hp} {i : Nat}
theorem sq_set (P : V → Hp → Prop) (h : ∀ Q : VK, (∀ x H', P x H' → Q x H') → te σ H Q) (k : ∀ x H', P x H' → u D (σ.set i (some x)) H') : tSeq (tAsg te (gName i)) u D σ H := h _ k
theorem s1_set (P : V → Hp → Prop) (h : ∀ Q : VK, (∀ x H', P x H' → Q x H') → te σ H Q) (k : ∀ x H', P x H' → D.nx (σ.set i (some x)) H') : (tAsg te (gName i)) D σ H := h _ k
theorem sq_par {j : Nat} {ta : TA} (P : V → V → Hp → Prop) (h : ∀ Q : List V → Hp → Prop, (∀ x y H', P x y H' → Q [x, y] H') → ta σ H Q) (k : ∀ x y H', P x y H' → u D ((σ.set i (some x)).set j (some y)) H') : tSeq (tPar i j ta) u D σ H := h _ fun x y H' p => ⟨x, y, rfl, k x y H' p⟩
theorem sq_do (P : V → Hp → Prop) (h : ∀ Q : VK, (∀ x H', P x H' → Q x H') → te σ H Q) (k : ∀ x H', P x H' → u D σ H') : tSeq (tDrop te) u D σ H := h _ k
theorem sq_if (P : Bool → Hp → Prop) (h : ∀ Q : Bool → Hp → Prop, (∀ b H', P b H' → Q b H') → c σ H Q) (kt : ∀ H', P true H' → t1 { D with nx := u D } σ H') (kf : ∀ H', P false H' → t2 { D with nx := u D } σ H') : tSeq (tIfS c t1 t2) u D σ H :=
  h _ fun b H' p => by
    cases b with
    | true => rw [if_pos rfl]; exact kt H' p
    | false => rw [if_neg Bool.false_ne_true]; exact kf H' p
theorem sq_if1 (P : Bool → Hp → Prop) (h : ∀ Q : Bool → Hp → Prop, (∀ b H', P b H' → Q b H') → c σ H Q) (kt : ∀ H', P true H' → t1 { D with nx := u D } σ H') (kf : ∀ H', P false H' → u D σ H') : tSeq (tIfS c t1 tNext) u D σ H := sq_if P h kt kf
theorem s1_if (P : Bool → Hp → Prop) (h : ∀ Q : Bool → Hp → Prop, (∀ b H', P b H' → Q b H') → c σ H Q) (kt : ∀ H', P true H' → t1 D σ H') (kf : ∀ H', P false H' → t2 D σ H') : (tIfS c t1 t2) D σ H :=
  h _ fun b H' p => by
    cases b with
    | true => rw [if_pos rfl]; exact kt H' p
    | false => rw [if_neg Bool.false_ne_true]; exact kf H' p
theorem s1_ret (P : V → Hp → Prop) (h : ∀ Q : VK, (∀ x H', P x H' → Q x H') → te σ H Q) (k : ∀ x H', P x H' → D.rt x H') : tRet te D σ H := h _ k
end
/-! promises -/
def spSource (K : PySem.W.Frag) : Sp := fun vs H Q _ => ∃ (a : Addr) (ns : List Int) (i : Int), vs = [.ref a, .int i] ∧ SqL K H a (ns.map V.int) ∧ ns.length ≤ 1000 ∧ 0 ≤ i ∧ i ≤ 1000 ∧
  ∀ p H', H p = none → Same H H' → Src H' p 0 → Q (.ref p) H'
def spDraw : Sp := fun vs H Q _ => ∃ (a : Addr) (n : Nat) (m : Int), vs = [.ref a, .int m] ∧ Src H a n ∧ n ≤ 1000000000 ∧ 0 < m ∧ m ≤ 1000000000 ∧
  ∀ H' i, Keep a H H' → Src H' a (n + 1) → 0 ≤ i → i < m → Q (.int i) H'
def spOf (K : PySem.W.Frag) : Sp := fun vs H Q _ => ∃ (a b : Addr) (n : Nat) (xs : List V), vs = [.ref a, .ref b] ∧ Src H a n ∧ n ≤ 1000000000 ∧ b ≠ a ∧ SqL K H b xs ∧ xs ≠ [] ∧ xs.length ≤ 100000 ∧
  ∀ H' x, Keep a H H' → Src H' a (n + 1) → x ∈ xs → Q x H'
def spNumber : Sp := fun vs H Q _ => ∃ (a : Addr) (n : Nat), vs = [.ref a] ∧ Src H a n ∧ n ≤ 900000000 ∧
  ∀ H' i, Keep a H H' → Src H' a (n + 8) → Q (.int i) H'
structure TxtD (mg : Str → Option Value) : Prop where
  len : mg "len" = none
  abs : mg "abs" = none
  int : mg "int" = none
  range : mg "range" = none
abbrev FnP (K : PySem.W.Frag) (x : Str) (st : Stmt) (f : Addr) (fd : FuncData) : Prop := FunD K x x (defArgs st) (defBody st) (defScope st) [] [] f fd
section
variable {P : Program} {w : World} {K : PySem.W.Frag} {mg : Str → Option Value} {base : Heap}
theorem bool_ite {c : Prop} [Decidable c] {A B : Prop} (h1 : c → A) (h2 : ¬ c → B) : if decide c = true then A else B := by
  by_cases h : c
  · rw [decide_eq_true h, if_pos rfl]; exact h1 h
  · rw [decide_eq_false h, if_neg Bool.false_ne_true]; exact h2 h
theorem atI_get {α : Type} {xs : List α} {i : Int} (h0 : 0 ≤ i) (h1 : i < xs.length) : ∃ x, atI xs i = some x ∧ x ∈ xs := by
  have e : i.toNat < xs.length := by omega
  refine ⟨xs[i.toNat], ?_, List.getElem_mem e⟩
  unfold atI ixN
  rw [if_pos h0, if_pos h1]
  simp [e]
theorem fmod_src (x : Int) : 0 ≤ x.fmod 2305843009213693951 ∧ x.fmod 2305843009213693951 < 2305843009213693951 :=
  ⟨Int.fmod_nonneg_of_pos x (by decide), Int.fmod_lt_of_pos x (by decide)⟩

/-! a def of the top, called by its name -/
def DefIs (K : PySem.W.Frag) (mg : Str → Option Value) (x : Str) (st : Stmt) : Prop := ∃ f fd, mg x = some (.ref f) ∧ FnP K x st f fd
structure Cal (P : Program) (w : World) (K : PySem.W.Frag) (mg : Str → Option Value) (base : Heap) (CX : CXT) (x : Str) (k : Nat) (ps : List Str) (sp : Sp) : Prop where
  ex : ∃ f fd, mg x = some (.ref f) ∧ PySem.W.keepIn K (.ref f) = true ∧ FnOk P w K mg base CX k f fd ps sp ∧ Binds K fd ps []
end
section
variable {X : Cx} {x : Str} {p pos : Pos} {e : Expr} {es : List Expr} {t : TA} {k : Nat} {ps : List Str} {sp : Sp}
theorem pe_cal (c : Cal X.prog X.w X.K X.mg X.base CX0 x k ps sp) (hr : Room k X.A) (ha : PA X (e :: es) t) (hg : Gl X x := by rfl) (hdb : (x == ("__debug__" : Str)) = false := by decide)
    (he : starEach (e :: es) X.env = (false, eval e X.env) :: starEach es X.env := by rfl) (hpl : (backTo pos (starEach es X.env)).any (·.1) = false := by rfl) :
    PE X (.Call (.Name x p) (e :: es) [] pos) (tCall sp [] E0 t) := by
  obtain ⟨f, fd, hm, hk, F, b⟩ := c.ex
  exact pe_call F hr hg hm hk b .nil pass0 ha hdb he hpl
end
section
variable {P : Program} {w : World} {K : PySem.W.Frag} {mg : Str → Option Value} {base : Heap}
end
/-! words -/
def IsWord (z : Str) : Prop := 1 ≤ z.length ∧ z.length ≤ 8 ∧ ∀ c ∈ z.cps.toList, 97 ≤ c ∧ c ≤ 122
def abc : List Nat := [97, 98, 99, 100, 101, 102, 103, 104, 105, 106, 107, 108, 109, 110, 111, 112, 113, 114, 115, 116, 117, 118, 119, 120, 121, 122]
def sign (c : Nat) : Str := ⟨#[c]⟩
abbrev letters : Str := "abcdefghijklmnopqrstuvwxyz"
theorem letters_eq : letters = ⟨abc.toArray⟩ := by decide +kernel
theorem abc_le {c : Nat} (h : c ∈ abc) : 97 ≤ c ∧ c ≤ 122 := by
  have h2 : ∀ c ∈ abc, 97 ≤ c ∧ c ≤ 122 := by decide
  exact h2 c h
theorem tl_sign (c : Nat) : (sign c).cps.toList = [c] := rfl
theorem joinL_flat : ∀ l : List (List Nat), TL.joinL [] l = l.flatten
  | [] => rfl
  | [p] => by simp [TL.joinL]
  | p :: q :: r => by
    show p ++ ([] ++ TL.joinL [] (q :: r)) = _
    rw [joinL_flat (q :: r)]
    simp
theorem join_signs (e : Str) (he : e.cps = #[]) (cs : List Nat) : (Txt.join e (cs.map sign)).cps.toList = cs := by
  rw [TL.join_eq]
  have h : (Str.join e (cs.map sign)).cps.toList = TL.joinL e.cps.toList ((cs.map sign).map fun z => z.cps.toList) := TL.tl_join e (cs.map sign)
  rw [h, he]
  show TL.joinL [] _ = _
  rw [joinL_flat, List.map_map]
  clear h
  induction cs with
  | nil => rfl
  | cons c r ih =>
    rw [List.map_cons, List.flatten_cons, ih]
    rfl
theorem nodup_le : ∀ {l ts : List Str}, l.Nodup → (∀ x ∈ l, x ∈ ts) → l.length ≤ ts.length
  | [], _, _, _ => Nat.zero_le _
  | x :: l, ts, hn, hs => by
    have hx : x ∈ ts := hs x List.mem_cons_self
    have hn2 := List.nodup_cons.mp hn
    have ih := nodup_le (l := l) (ts := ts.erase x) hn2.2 fun y hy => by
      have ne : y ≠ x := fun e => hn2.1 (e ▸ hy)
      exact (List.mem_erase_of_ne ne).mpr (hs y (List.mem_cons_of_mem _ hy))
    rw [List.length_erase_of_mem hx] at ih
    have pos : 0 < ts.length := List.length_pos_of_mem hx
    simp only [List.length_cons]
    omega
def cand (w : Str) (c : Nat) : Str := cutS (sign c ++ w) none (some 8)
theorem tl_app (a b : Str) : (a ++ b).cps.toList = a.cps.toList ++ b.cps.toList := by
  rw [PySem.Str.cps_append, Array.toList_append]
theorem len_tl (a : Str) : a.length = a.cps.toList.length := by simp [Str.length]
theorem cand_tl (w : Str) (c : Nat) : (cand w c).cps.toList = (c :: w.cps.toList).take 8 := by
  unfold cand cutS
  have e : (sign c ++ w).cps.toList = c :: w.cps.toList := tl_app _ _
  have l : (sign c ++ w).length = w.cps.toList.length + 1 := by rw [len_tl, e]; rfl
  rw [e, l]
  have h8 : HT.sIx (w.cps.toList.length + 1) (w.cps.toList.length + 1) (some 8) = min 8 (w.cps.toList.length + 1) := HT.sIx_nat _ _ 8
  rw [h8]
  show (List.take (min 8 (w.cps.toList.length + 1) - 0) (List.drop 0 (c :: w.cps.toList))) = _
  rw [Nat.sub_zero, List.drop_zero]
  have : (c :: w.cps.toList).length = w.cps.toList.length + 1 := rfl
  rw [← this, ← List.take_eq_take_min]
theorem cand_word {w : Str} {c : Nat} (h : IsWord w) (hc : c ∈ abc) : IsWord (cand w c) := by
  have e := cand_tl w c
  obtain ⟨h1, h2, h3⟩ := h
  rw [len_tl] at h1 h2
  refine ⟨?_, ?_, fun d hd => ?_⟩
  · rw [len_tl, e]; simp
  · rw [len_tl, e]; simp; omega
  · rw [e] at hd
    rcases List.mem_cons.mp (List.mem_of_mem_take hd) with q | q
    · rw [q]; exact abc_le hc
    · exact h3 d q
theorem cand_inj {w : Str} {c d : Nat} (h : cand w c = cand w d) : c = d := by
  have e : (cand w c).cps.toList = (cand w d).cps.toList := by rw [h]
  rw [cand_tl, cand_tl] at e
  simpa using e
theorem free_some (w : Str) (ts : List Str) (h : ts.length ≤ 25) : abc.filter (fun c => !decide (cand w c ∈ ts)) ≠ [] := by
  intro e
  have ha : ∀ c ∈ abc, cand w c ∈ ts := fun c hc => by
    have := List.filter_eq_nil_iff.mp e c hc
    simpa using this
  have nd : (abc.map (cand w)).Nodup := by
    have h0 : abc.Nodup := by decide
    exact List.Pairwise.map _ (fun a b ne q => ne (cand_inj q)) h0
  have l := nodup_le nd (ts := ts) (fun x hx => by
    obtain ⟨c, hc, rfl⟩ := List.mem_map.mp hx
    exact ha c hc)
  rw [List.length_map] at l
  have : abc.length = 26 := rfl
  omega
theorem inV_str (w : Str) (ts : List Str) : inV (.str w) (ts.map V.str) = decide (w ∈ ts) := by
  unfold inV
  rw [List.any_map]
  apply Bool.eq_iff_iff.mpr
  simp only [List.any_eq_true, Function.comp, decide_eq_true_eq]
  constructor
  · rintro ⟨y, hy, e⟩
    have e2 : (y == w) = true := e
    exact (eq_of_beq e2) ▸ hy
  · intro h
    exact ⟨w, h, beq_self_eq_true w⟩
theorem flat_strs (ts : List Str) : (ts.map V.str).all flatV = true := by
  rw [List.all_map]
  exact List.all_eq_true.mpr fun _ _ => rfl
abbrev nWord : List Str := ["source", "taken", "letters", "word", "free", "turn", "letter"]
def spWord (K : PySem.W.Frag) : Sp := fun vs H Q _ => ∃ (a b : Addr) (n : Nat) (ts : List Str), vs = [.ref a, .ref b] ∧ Src H a n ∧ n ≤ 900000000 ∧ b ≠ a ∧ SqL K H b (ts.map V.str) ∧ ts.length ≤ 25 ∧
  ∀ H' w, Keep a H H' → Src H' a (n + 10) → IsWord w → w ∉ ts → Q (.str w) H'
section
variable {P : Program} {w : World} {K : PySem.W.Frag} {mg : Str → Option Value} {base : Heap}
theorem str_notmem {z : Str} {ts : List Str} {A B : Prop} (h1 : z ∉ ts → A) (h2 : z ∈ ts → B) : if (if true = true then !inV (.str z) (ts.map V.str) else inV (.str z) (ts.map V.str)) = true then A else B := by
  rw [if_pos rfl, inV_str]
  by_cases h : z ∈ ts
  · rw [decide_eq_true h, Bool.not_true, if_neg Bool.false_ne_true]; exact h2 h
  · rw [decide_eq_false h, Bool.not_false, if_pos rfl]; exact h1 h
theorem letters_cps : letters.cps = abc.toArray := by rw [letters_eq]
theorem abc_at {i : Int} (h0 : 0 ≤ i) (h1 : i < 26) : ∃ c, atI letters.cps.toList i = some c ∧ c ∈ abc := by
  rw [letters_cps]
  exact atI_get (xs := abc) h0 (by show i < 26; exact h1)
end
/-! isinstance of a caught error that has its own dict -/
def rIsED (K : PySem.W.Frag) (cls : Value) (d : Option Addr) (a : Addr) : List V → Hp → VK → Prop := fun xs H Q =>
  ∃ (D dd : Addr) (c : V) (cv : Value) (b : Bool) (fs : List (Str × V)), cls = .ref D ∧ d = some dd ∧ ExcC K D ∧ xs = [.ref a, c] ∧ (∀ u, RelV c u → u = cv) ∧ H dd = some (.xd fs) ∧ PySem.W.kitOne K (.ref D) cv = some b ∧ Q (.bl b) H
theorem call_isED {X : Cx} {a : Addr} {cls : Value} {d : Option Addr} {oe : Obj} {pn : List (Addr × Obj)} (hz : Zc cls d oe) (hf : ∃ vs, oe.data = .fields vs) :
    CallR (X.suite a ((a, oe) :: pn)) (.builtin "isinstance") (rIsED X.K cls d a) := by
  intro pins s σ H xs us Q I r h
  obtain ⟨D, dd, c, cv, b, fs, rfl, rfl, C, rfl, hcv, hdd, e, q⟩ := h
  obtain ⟨u1, u2, rfl, r1, r2⟩ := vals2 r
  obtain rfl : u1 = Value.ref a := r1
  obtain rfl := hcv _ r2
  have hp := (I.pin (a, oe) (List.mem_append_left _ List.mem_cons_self)).1
  obtain ⟨mA, hns, _⟩ := (show ObjOk X.prog X.w H s.heap dd (.xd fs) from I.hok dd _ hdd)
  obtain ⟨od, ho, _⟩ := lookIn_ns hns
  obtain ⟨vs, hv⟩ := hf
  have J : PySem.W.InstAt s.heap a oe D (some od) := ⟨hp, hz.1, by unfold PySem.W.notCls; rw [hv] <;> rfl, by rw [hz.2]; exact ho⟩
  have hc : (PySem.W.clsIn X.K D).isSome = true := by
    have z := C.hd
    unfold PySem.W.hasDictIn at z
    cases q : PySem.W.clsIn X.K D with
    | none => rw [q] at z; cases z
    | some y => rfl
  exact PySem.W.kia_one (PySem.W.kitx_exc hc C.hg C.hk C.hs C.ha C.hn C.ht C.hm) I.kIn J e (fun z => nomatch z) fun tk => ⟨.bl b, H, I.tok tk, rfl, q⟩
/-! f(k = v, ..), nothing by position, what it raises wished for at the caller's slots -/
def tCallKS (m : Nat) (sp : Sp) (gV : List V → List V → List V) (E : L2.St → XK) (tk : TA) : TE := fun σ H Q => tk σ H fun zs H2 => zs.length = m ∧ sp (gV [] zs) H2 Q (E σ)
section
variable {X : Cx} {CX : CXT} {k : Nat} {f : Addr} {fd : FuncData} {ps ks : List Str} {sp : Sp} {E : L2.St → XK} {x : Str} {p pos : Pos} {kws : List Keyword} {tk : TA} {g : List Value → List Value → List Value} {gV : List V → List V → List V}
theorem pe_callKS (F : FnOk X.prog X.w X.K X.mg X.base CX k f fd ps sp) (hr : Room k X.A) (hm : X.mg x = some (.ref f)) (hk : PySem.W.keepIn X.K (.ref f) = true) (hb : KBn X.K fd ps 0 ks g gV) (hx : ∀ σ, PassesAt CX X σ (E σ)) (hkw : PK X kws tk)
    (hg : Gl X x := by rfl) (hall : (backToKw pos (keywordEach kws X.env)).all (·.1.isSome) = true := by rfl) (hks : (backToKw pos (keywordEach kws X.env)).filterMap (·.1) = ks := by rfl) (hdb : (x == ("__debug__" : Str)) = false := by decide)
    (hpl : ((backTo pos (starEach [] X.env)).any (·.1) || (backToKw pos (keywordEach kws X.env)).any (·.1.isNone)) = false := by rfl) :
    PE X (.Call (.Name x p) [] kws pos) (tCallKS ks.length sp gV E tk) := by
  refine ⟨fun pins s σ H Q I h => wpAny_Call_Name_kw (ld_glob I hg hm ?_ hdb)⟩
  refine PySem.W.callWith_KW0 (h₀ := X.base) I.ok.mod.kin hk hall (thn (hkw.run pos pins s σ H _ I h) fun ws s2 ⟨zs, H2, I2, rz, l2, q2⟩ => ⟨I2.kIn, ?_⟩) hpl
  rw [hks]
  have r2 := hb.rel .nil rz
  have bt := hb.to s2 [] ws I2.kIn rfl (rz.length.symm.trans l2)
  refine wpAny_call (codeAny_mono (F.run X.A X.stack s2 H2 ⟨[], ks.zip ws⟩ (g [] ws) (gV [] zs) Q (E σ) hr I2.env0 bt r2 q2) fun r s' hq => ?_)
  match r, hq with
  | .error e, hq => exact hx σ pins H2 s2 e s' I2 hq
  | .ok (.ret u), hq => exact I2.after hq
  | .ok .next, hq => exact hq.elim
  | .ok .brk, hq => exact hq.elim
  | .ok .cont, hq => exact hq.elim
end
structure TxtP (mg : Str → Option Value) : Prop where
  isi : mg "isinstance" = none
  int : mg "int" = none
  bool : mg "bool" = none
  str : mg "str" = none
  list : mg "list" = none
  tuple : mg "tuple" = none
  dict : mg "dict" = none
  len : mg "len" = none
  all : mg "all" = none
  longest : ∃ t, mg "LONGEST_WORD" = some (.int 8 t)
/-- a value of a built-in type t -/
def IsTy (K : PySem.W.Frag) (H : Hp) (v : V) (t : String) : Prop := TyX K H v (.type t)
def NotTy (K : PySem.W.Frag) (H : Hp) (v : V) (c : String) : Prop := ∃ t, TyX K H v (.type t) ∧ kitB t c = some false
def isWordB (z : Str) : Bool := decide (1 ≤ z.length) && (decide (z.length ≤ 8) && z.cps.toList.all fun c => decide (97 ≤ c) && decide (c ≤ 122))
theorem isWordB_iff (z : Str) : isWordB z = true ↔ IsWord z := by
  unfold isWordB IsWord
  simp only [Bool.and_eq_true, decide_eq_true_eq, List.all_eq_true]
theorem isWordB_true {z : Str} (h : IsWord z) : isWordB z = true := (isWordB_iff z).mpr h
theorem isWordB_false {z : Str} (h : ¬ IsWord z) : isWordB z = false := by
  cases e : isWordB z with
  | false => rfl
  | true => exact absurd ((isWordB_iff z).mp e) h
def spIsInteger (K : PySem.W.Frag) : Sp := fun vs H Q _ => ∃ (v : V) (b : Bool), vs = [v] ∧
  ((b = true ∧ ∃ i, v = .int i) ∨ (b = false ∧ ((∃ c, v = .bl c) ∨ NotTy K H v "int"))) ∧ Q (.bl b) H
def spIsWord (K : PySem.W.Frag) : Sp := fun vs H Q _ => ∃ (v : V) (b : Bool), vs = [v] ∧
  ((∃ z, v = .str z ∧ z.length ≤ 1000 ∧ b = isWordB z) ∨ (b = false ∧ NotTy K H v "str")) ∧ ∀ H', Same H H' → Q (.bl b) H'
def spCopied (K : PySem.W.Frag) : Sp := fun vs H Q _ => ∃ (v : V), vs = [v] ∧ NotTy K H v "list" ∧ NotTy K H v "tuple" ∧ NotTy K H v "dict" ∧ Q v H
section
variable {P : Program} {w : World} {K : PySem.W.Frag} {mg : Str → Option Value} {base : Heap}
theorem ty_int {H : Hp} (i : Int) : TyX K H (.int i) (.type "int") := .base (.int i)
theorem ty_bl {H : Hp} (i : Bool) : TyX K H (.bl i) (.type "bool") := .base (.bl i)
theorem ty_str {H : Hp} (i : Str) : TyX K H (.str i) (.type "str") := .base (.str i)
theorem ty_non {H : Hp} : TyX K H .non (.type "NoneType") := .base .non
theorem lt_sign (c d : Nat) : decide (([c] : List Nat) < [d]) = decide (c < d) := by
  have : (([c] : List Nat) < [d]) ↔ c < d := by
    rw [List.cons_lt_cons_iff]
    simp
  simp only [this]
end
theorem exc_end {H : Hp} {a C d : Addr} {fs : List (Str × V)} (na : H a = none) (nd : upd H a (exo a C none) d = none) (da : d ≠ a) :
    H d = none ∧ Same H (upd (del (upd (upd (upd H a (exo a C none)) d (exd d fs)) a (exo a C (some d))) a) d (.xd fs)) := by
  have n2 : H d = none := by rw [upd_ne da] at nd; exact nd
  refine ⟨n2, fun b o h => ?_⟩
  rw [upd_ne (ne_of_none h n2), del_ne (ne_of_none h na), upd_ne (ne_of_none h na), upd_ne (ne_of_none h n2), upd_ne (ne_of_none h na)]
  exact h
theorem Same.new {H H1 : Hp} {p : Addr} {o : HO} (s : Same H H1) (h : H1 p = none) : Same H (upd H1 p o) := fun b u e => by
  rw [upd_ne (ne_of_none (s b u e) h)]
  exact s b u e
section
variable {P : Program} {w : World} {K : PySem.W.Frag} {mg : Str → Option Value} {base : Heap}
theorem nt_str {H : Hp} (z : Str) : NotTy K H (.str z) "list" ∧ NotTy K H (.str z) "tuple" ∧ NotTy K H (.str z) "dict" :=
  ⟨⟨_, ty_str z, by decide +kernel⟩, ⟨_, ty_str z, by decide +kernel⟩, ⟨_, ty_str z, by decide +kernel⟩⟩
theorem NotTy.same {H H1 : Hp} {v : V} {c : String} (s : Same H H1) (h : NotTy K H v c) : NotTy K H1 v c := by
  obtain ⟨t, ht, k⟩ := h
  refine ⟨t, ?_, k⟩
  cases ht with
  | base b => cases b with
    | non => exact .base .non
    | bl y => exact .base (.bl y)
    | int i => exact .base (.int i)
    | str y => exact .base (.str y)
    | flt y => exact .base (.flt y)
    | lst e => exact .base (.lst (s _ _ e))
    | frz e => exact .base (.frz (s _ _ e))
    | tup e => exact .base (.tup (s _ _ e))
    | dK e => exact .base (.dK (s _ _ e))
    | dT e => exact .base (.dT (s _ _ e))
  | byt b => exact .byt b
  | set e => exact .set (s _ _ e)
  | kList e c => exact .kList e c
  | kTuple e c => exact .kTuple e c
  | kDict e c => exact .kDict e c
  | fTuple e => exact .fTuple (s _ _ e)
  | fDict e => exact .fDict (s _ _ e)
theorem not_nt_str {H : Hp} {z : Str} (h : NotTy K H (.str z) "str") : False := by
  obtain ⟨t, ht, k⟩ := h
  generalize hv : V.str z = v at ht
  generalize hu : Value.type t = u at ht
  cases ht with
  | base b =>
    cases b with
    | str y =>
      cases hu
      exact absurd k (by decide +kernel)
    | _ => cases hv
  | _ => cases hv
end
def oddStrs : List Str := ["", "abcdefghi", "A", "aB", "a1", "a b", " a", "a_", "-"]
inductive Odd (a : Addr) (H : Hp) : V → Prop where
  | str {z : Str} (h : z ∈ oddStrs) : Odd a H (.str z)
  | non : Odd a H .non
  | int (i : Int) : Odd a H (.int i)
  | bl (b : Bool) : Odd a H (.bl b)
  | tup {p : Addr} {xs : List V} (n : p ≠ a) (h : H p = some (.tup xs)) (e : xs = [] ∨ xs = [.str "a"]) : Odd a H (.ref p)
  | lst {p : Addr} {xs : List V} (n : p ≠ a) (h : H p = some (.lst xs)) (e : xs = [] ∨ xs = [.str "a"]) : Odd a H (.ref p)
  | dic {p : Addr} (n : p ≠ a) (h : H p = some (.dK [(.inr "a", .str "b")])) : Odd a H (.ref p)
theorem Odd.keep {a : Addr} {H H' : Hp} {v : V} (k : Keep a H H') (h : Odd a H v) : Odd a H' v := by
  cases h with
  | str h => exact .str h
  | non => exact .non
  | int i => exact .int i
  | bl b => exact .bl b
  | tup n h e => exact .tup n (k _ _ n h) e
  | lst n h e => exact .lst n (k _ _ n h) e
  | dic n h => exact .dic n (k _ _ n h)
theorem odd_notword {K : PySem.W.Frag} {a : Addr} {H : Hp} {v : V} (h : Odd a H v) : (∃ z, v = .str z ∧ z.length ≤ 1000 ∧ ¬ IsWord z) ∨ NotTy K H v "str" := by
  cases h with
  | @str z h =>
    have e : ∀ z ∈ oddStrs, (decide (z.length ≤ 1000) && !isWordB z) = true := by decide +kernel
    have e2 := e z h
    simp only [Bool.and_eq_true, decide_eq_true_eq, Bool.not_eq_true'] at e2
    exact .inl ⟨z, rfl, e2.1, fun hw => by rw [isWordB_true hw] at e2; cases e2.2⟩
  | non => exact .inr ⟨_, ty_non, by decide +kernel⟩
  | int i => exact .inr ⟨_, ty_int i, by decide +kernel⟩
  | bl b => exact .inr ⟨_, ty_bl b, by decide +kernel⟩
  | tup n h e => exact .inr ⟨_, .base (.tup h), by decide +kernel⟩
  | lst n h e => exact .inr ⟨_, .base (.lst h), by decide +kernel⟩
  | dic n h => exact .inr ⟨_, .base (.dK h), by decide +kernel⟩
theorem same_new2 {H : Hp} {p : Addr} {o u : HO} (n : H p = none) : Same H (upd (upd H p o) p u) := fun b x h => by
  rw [upd_ne (ne_of_none h n), upd_ne (ne_of_none h n)]
  exact h
def spOdd : Sp := fun vs H Q _ => ∃ (a : Addr) (n : Nat), vs = [.ref a] ∧ Src H a n ∧ n ≤ 900000000 ∧ ∀ H' v, Keep a H H' → Src H' a (n + 1) → Odd a H' v → Q v H'
theorem Src.same {H H1 : Hp} {a : Addr} {n : Nat} (s : Same H H1) (h : Src H a n) : Src H1 a n := by
  obtain ⟨d, x, t, h1, h2⟩ := h
  exact ⟨d, x, t, s _ _ h1, h2⟩
section
variable {P : Program} {w : World} {K : PySem.W.Frag} {mg : Str → Option Value} {base : Heap}
end
theorem kb_of {K : PySem.W.Frag} {x qual : Str} {params : Arguments} {body : List Stmt} {scope : Scope} {kws : List (Str × V)} {f : Addr} {fd : FuncData} {ps : List Str} (F : FunD K x qual params body scope [] kws f fd)
    (h : ∀ (kV doc pm : Value) (an : Option Addr) (cdv ct : Value) (ws : List Value), ws.length = ps.length → bindArgs (PySem.W.fnOf x qual params body scope .none kV doc pm an cdv ct) ⟨[], ps.zip ws⟩ = pure (ps.zip ws)) : KBn K fd ps 0 ps (fun _ ws => ws) (fun _ zs => zs) := by
  obtain ⟨oc, od, dV, kV, doc, pm, an, cdv, ct, osl, rfl, lk, hcd, hD, hK⟩ := F.ex
  rcases hD with ⟨_, rfl⟩ | ⟨e, _⟩
  · exact ⟨fun s us ws _ l1 l2 => by
      obtain rfl : us = [] := List.length_eq_zero_iff.mp l1
      exact .of_eq (h kV doc pm an cdv ct ws l2), fun _ r => r⟩
  · exact absurd rfl e
end Lw
namespace Hk
open PySem PySem.Spec PyProof.Rows L2
/-! a Hook: facts, defs, tables, one Bool more -/
abbrev Al : Type := He.AlT × Bool
def obG (n : Nat) (fa : List He.Fa) (fn : List He.DefD) (ts : List He.Tab) (own : PySem.W.Frag → Bool) (g : Addr → Option Obj) : Al := (He.obsTG n fa fn ts g, own (He.frG g (He.asD g n)))
def Says (fa : List He.Fa) (fn : List He.DefD) (ts : List He.Tab) (own : PySem.W.Frag → Bool) (w : World) (K : PySem.W.Frag) : Prop := He.SaysT fa fn ts w K ∧ own K = true
def hook (n : Nat) (fa : List He.Fa) (fn : List He.DefD) (ts : List He.Tab) (own : PySem.W.Frag → Bool) : PySem.W.Hook where
  α := Al
  obs := fun s => obG n fa fn ts own s.heap.get?
  val := fun w => (He.valT fn ts w, true)
  says := fun w h => ∃ K : PySem.W.Frag, K.In h ∧ Says fa fn ts own w K
  of := fun _ _ e => ⟨_, He.frG_in, congrArg Prod.fst e, congrArg Prod.snd e⟩
  keeps := fun _ _ _ ⟨K, hK, c⟩ k => ⟨K, PySem.W.Frag.In.keeps hK k, c⟩
theorem obG_eq {n : Nat} {fa : List He.Fa} {fn : List He.DefD} {ts : List He.Tab} {own : PySem.W.Frag → Bool} {g : Addr → Option Obj} {s : Shared} (h : ∀ a, g a = s.heap.get? a) : obG n fa fn ts own g = (hook n fa fn ts own).obs s := by
  rw [show g = s.heap.get? from funext h] <;> rfl
/-- an own error class over ValueError with an own __init__ -/
def oexB (K : PySem.W.Frag) (C : Addr) : Bool := match K.lookup C with
  | some ⟨.type t, _, .cls ⟨_, _, .ref c :: bm, _, _, true, _, _, _, _, false⟩, sl⟩ => (decide (t = "type") && (decide (c = C) && PySem.HandSPX.refsVE bm)) && (match sl.toList with
    | [_, _, _, _, some (.builtin z), _] => decide (z = "ValueError.__new__")
    | _ => false)
  | _ => false
def clsB (K : PySem.W.Frag) (C : Addr) : Bool := oexB K C && (He.eqO (PySem.W.findIn K (.ref C) "__setattr__") (some (some (.builtin "object.__setattr__"))) && (decide (PySem.W.subIn K (.ref C) (.type "BaseException") = some true) &&
  (decide (PySem.W.typeIn K (.ref C) = some (.type "type")) && PySem.W.keepIn K (.ref C))))
theorem oexB_ok {K : PySem.W.Frag} {C : Addr} (h : clsB K C = true) : OexC K C := by
  obtain ⟨h1, h⟩ := He.ba h
  obtain ⟨h2, h⟩ := He.ba h
  obtain ⟨h3, h⟩ := He.ba h
  obtain ⟨h4, h5⟩ := He.ba h
  refine ⟨?_, He.eqO_ok h2, of_decide_eq_true h3, of_decide_eq_true h4, h5⟩
  unfold oexB at h1
  split at h1
  · rename_i t dd nm bs c bm N qn sn sub ab col sl e
    obtain ⟨q1, q2⟩ := He.ba h1
    obtain ⟨q3, q4⟩ := He.ba q1
    obtain ⟨q5, q6⟩ := He.ba q4
    have e1 := of_decide_eq_true q3
    have e2 := of_decide_eq_true q5
    subst e1 e2
    split at q2
    · rename_i k0 k1 k2 k3 z k5 es
      have e3 := of_decide_eq_true q2
      subst e3
      obtain ⟨sl⟩ := sl
      simp only at es
      subst es
      exact ⟨nm, qn, N, bs, bm, sn, sub, ab, col, dd, k0, k1, k2, k3, k5, e, q6⟩
    · cases q2
  · cases h1
/-- isinstance asks its instances rightly -/
def excB (K : PySem.W.Frag) (D : Addr) : Bool := L2.xfB K D && (He.eqO (PySem.W.findIn K (.ref D) "__class__") (some (some (.builtin "object.__class__"))) && (decide (PySem.W.mroIn K D (.type "object") = some true) && getB K))
where getB (K : PySem.W.Frag) : Bool := decide (PySem.W.specialIn K (.builtin "object.__class__") "__get__" = some (some (.builtin "getset_descriptor.__get__"))) && decide (PySem.W.takesIn K (.builtin "object.__class__") = some true)
theorem excB_ok {K : PySem.W.Frag} {D : Addr} (h : excB K D = true) : ExcC K D ∧ XfC K D := by
  obtain ⟨h1, h⟩ := He.ba h
  obtain ⟨h2, h⟩ := He.ba h
  obtain ⟨h3, h⟩ := He.ba h
  obtain ⟨h4, h5⟩ := He.ba h
  have x := L2.xfB_ok h1
  exact ⟨⟨x.ga, x.gg, x.exC, x.hdC, He.eqO_ok h2, of_decide_eq_true h4, of_decide_eq_true h5, of_decide_eq_true h3⟩, x⟩
/-- isinstance of an own class's instances -/
def insB (K : PySem.W.Frag) (D : Addr) : Bool := He.eqO (PySem.W.findIn K (.ref D) "__class__") (some (some (.builtin "object.__class__"))) && (decide (PySem.W.mroIn K D (.type "object") = some true) && excB.getB K)
end Hk

set_option Elab.async false
set_option linter.all false
set_option maxRecDepth 100000
set_option maxHeartbeats 4000000
namespace Lw
open PySem PySem.Spec PyProof.Rows L2
/-! an own error with an own __init__, made: its context is None -/
section
variable {X : Cx} {CX : CXT} {x : Str} {e : Expr} {es : List Expr} {ta : TA} {p pos : Pos} {C fI : Addr} {k : Nat} {fd : FuncData} {ps : List Str} {sp : Sp} {ds : List Value} {dvs : List V}
theorem pmk_oexN (T : OexC X.K C) (iC : PySem.W.findIn X.K (.ref C) "__init__" = some (some (.ref fI))) (tI : PySem.W.typeIn X.K (.ref fI) = some (.type "function")) (F1 : FnOk X.prog X.w X.K X.mg X.base CX k fI fd ps sp) (hr : Room (k + 1) X.A) (hb : Binds X.K fd ps ds)
    (hd : Vals dvs ds) (hx : Passes CX X (fun _ _ _ => False)) (hm : X.mg x = some (.ref C)) (ha : PA X (e :: es) ta) (hg : Gl X x := by rfl) (hdb : (x == ("__debug__" : Str)) = false := by decide) (he : starEach (e :: es) X.env = (false, eval e X.env) :: starEach es X.env := by rfl)
    (hpl : (backTo pos (starEach es X.env)).any (·.1) = false := by rfl) : L2N.PMk X (.Call (.Name x p) (e :: es) [] pos) (tMkO C sp dvs ta) := fun pins s σ H Q I h => by
  obtain ⟨nm, qn, N, bs, bm, sn, sub, ab, col, dd, k0, k1, k2, k3, k5, hC, hbm⟩ := T.cls
  refine wpAny_Call_Name_kw (ld_glob I hg hm (PySem.W.callWith_K (h₀ := X.base) I.ok.mod.kin T.kC (thn (ha.run pos pins s σ H _ I h) fun us st ⟨vs, H1, J, rv, hz, q1⟩ => ⟨J.kIn, ?_⟩) he hpl) hdb)
  show wpAny _ _ (call (.ref C) us) _ _ _
  obtain ⟨hp, g, dr, tk, os⟩ := st
  have up : hp.objs.size ≤ hp.objs.size + 1 := by omega
  have spec := q1 (hp.objs.size + 1) (J.hok.fresh up)
  have stay : ∀ b o, hp.get? b = some o → ((hp.push (PySem.W.kdv_tup us)).push (PySem.HandSPX.excO C hp.objs.size)).get? b = some o := fun b o z => Heap.get?_push_of_some _ (Heap.get?_push_of_some _ z)
  have there : ((hp.push (PySem.W.kdv_tup us)).push (PySem.HandSPX.excO C hp.objs.size)).get? (hp.objs.size + 1) = some (PySem.HandSPX.excO C hp.objs.size) := by heap_get
  have J2 := J.laid (t' := tk) (a := hp.objs.size + 1) (o := exo (hp.objs.size + 1) C none) (h' := (hp.push (PySem.W.kdv_tup us)).push (PySem.HandSPX.excO C hp.objs.size)) stay up (exo_ok there)
  have rel : Vals (V.ref (hp.objs.size + 1) :: (vs ++ dvs)) (Value.ref (hp.objs.size + 1) :: (us ++ ds)) := .cons rfl (rv.append hd)
  have len : (Value.ref (hp.objs.size + 1) :: us ++ ds).length = ps.length := (F1.len _ _ _ _ spec ▸ rel.length).symm
  have line : us.length ≤ sizeLine := by rw [← Paired.length rv, sizeLine_eq]; omega
  refine wpAny_call (PySem.HandSPX.call_own F.excBase_ValueError (fun Y => PySem.HandSPX.refsVE_contains Y bm hbm) (J.kIn _ _ hC) (PySem.W.looks_findIn J.kIn iC) (fun self => PySem.W.bind_fn J.kIn self tI) line
    (codeAny_mono (F1.run _ X.stack _ _ ⟨Value.ref (hp.objs.size + 1) :: us, []⟩ (Value.ref (hp.objs.size + 1) :: (us ++ ds)) _ _ (fun _ _ _ => False) (hr.make C us []) (J2.env0.make C us []) (hb _ (Value.ref (hp.objs.size + 1) :: us) J2.kIn len) rel spec) fun r s' back => ?_))
  match r, back with
  | .error er, back => exact hx pins σ _ _ er s' J2 back
  | .ok .next, back => exact back.elim
  | .ok .brk, back => exact back.elim
  | .ok .cont, back => exact back.elim
  | .ok (.ret u), back =>
    obtain ⟨v, H2, os2, bare2, un2, hok2, rv2, ev, d, fs, ea, ed, hd1, q2⟩ := back
    subst ev
    obtain ⟨h2, g2, d2, t2, os'⟩ := s'
    obtain ⟨t0, G, JG, kG, ge, hoe, na⟩ := mk_end0 (d2 := d2) (t2 := t2) J up stay un2 hok2 os2 bare2 ea ed hd1
    exact ⟨rv2, _, _, _, ⟨G, g2, d2, t2, os'⟩, _, .ref C, some d, rfl, JG, kG, ge, hoe, ⟨rfl, rfl, fun z ez => by cases ez; rfl⟩, rfl, rfl, na, rfl, bare2, raises_own T.exC T.tyC, q2⟩
/-! C(e, ..), C what a local name holds -/
def tMakeL (i : Nat) (C : Addr) (sp : Sp) (E : XK) (t : TA) : TE := fun σ H Q => σ[i]? = some (some (.ref C)) ∧ tMake C sp [] E t σ H Q
theorem pe_makeL {E : XK} {t : TA} {i f : Nat} (M : Mk X.K C f) (F : FnOk X.prog X.w X.K X.mg X.base CX k f fd ps sp) (hr : Room (k + 1) X.A) (hN : X.N[i]? = some x) (hv : Vis X.env.scope x) (hb : Binds X.K fd ps []) (hx : Passes CX X E) (ha : PA X (e :: es) t)
    (hdb : (x == ("__debug__" : Str)) = false := by decide) (hcd : (x == ("__classdict__" : Str)) = false := by decide) (he : starEach (e :: es) X.env = (false, eval e X.env) :: starEach es X.env := by rfl) (hpl : (backTo pos (starEach es X.env)).any (·.1) = false := by rfl) :
    PE X (.Call (.Name x p) (e :: es) [] pos) (tMakeL i C sp E t) := ⟨fun pins s σ H Q I ⟨hs, ht⟩ => by
  refine wpAny_Call_Name_kw (thn ((pe_var (pos := p) hN hv hdb hcd).run pins s σ H (fun v H1 => v = .ref C ∧ H1 = H) I ⟨.ref C, hs, rfl, rfl⟩) fun u s1 ⟨v, H1, J, r1, e1, e2⟩ => ?_)
  subst e1 e2
  obtain rfl : u = Value.ref C := r1
  exact PySem.W.callWith_K (h₀ := X.base) J.ok.mod.kin M.kp (thn (ha.run pos pins s1 σ H1 _ J ht) fun us s2 ⟨vs, H2, J2, r, q⟩ => ⟨J2.kIn, run_make M F hr hb .nil hx J2 r q⟩) he hpl⟩
/-! what a try's body lets out, whatever its slots are -/
def WL (X : Cx) (W : WX) : XK := fun cls d H => ∀ σ : L2.St, σ.length = X.N.length → W cls d σ H
theorem passL {W : WX} (tk : L2N.Takes X W) : Passes (L2N.CX X.prog X.w) X (WL X W) := fun pins σ H s u s' I c => by
  obtain ⟨a, B, H', cls, d, hu, fl, hok, ub, na, os, ag, hE⟩ := c
  exact tk u s' (L2N.XE.of_call (W := W) (E := fun c d H => W c d σ H) I (fun _ _ _ z => z) ⟨a, B, H', cls, d, hu, fl, hok, ub, na, os, ag, hE σ I.len⟩)
end
/-! a def called while an error is handled -/
theorem okH {CX : CXT} {P : Program} {w : World} {K : PySem.W.Frag} {mg : Str → Option Value} {base : Heap} {k : Nat} {x qual : Str} {params : Arguments} {bd : List Stmt} {scope : Scope} {dvs : List V} {kws : List (Str × V)} {f : Addr} {fd : FuncData} {N ps : List Str} {sp : Sp}
    (F : FunD K x qual params bd scope dvs kws f fd) (S : FnScope N ps scope) (len : ∀ vs H Q E, sp vs H Q E → vs.length = ps.length)
    (hb : ∀ (cdv : Value) (A : Around) (outer : List Env) (s : Shared) (H : Hp) (vs : List V) (Q : VK) (E : XK) (p : Addr × Obj), L2H.Hot1 A p → L2H.RoomH k (A.deeper (envOfC qual scope s.heap.objs.size f cdv)) → sp vs H Q E →
      ∃ t, PSs (L2H.cxH CX P w K mg base N qual scope f cdv A outer s H E p) bd t ∧ t { nx := fun _ H' => Q .non H', rt := Q } (start N vs) H) : L2H.FnH P w K mg base CX (k + 1) f fd ps sp := by
  obtain ⟨oc, od, dV, kV, doc, pm, an, cdv, ct, osl, rfl, lk, hcd, _, _⟩ := F.ex
  exact L2H.fn_ofH lk hcd S len fun A outer s H vs Q E p h1 h2 h3 => hb cdv A outer s H vs Q E p h1 h2 h3
end Lw

set_option Elab.async false
set_option linter.all false
set_option maxRecDepth 100000
set_option maxHeartbeats 4000000
namespace Lw
open PySem PySem.Spec PyProof.Rows L2
def top (i : Nat) : Stmt := PySem.Challenge.pw_filteredcopies_k04_tables_refused.main.body.getD i (.Pass ⟨0, 0, 0, 0⟩)
abbrev sSource : Stmt := top 14
abbrev sDraw : Stmt := top 15
abbrev sOf : Stmt := top 16
abbrev sWord : Stmt := top 18
abbrev sOdd : Stmt := top 19
abbrev sIsWord : Stmt := top 3
abbrev sCopied : Stmt := top 4
section
variable {P : Program} {w : World} {K : PySem.W.Frag} {mg : Str → Option Value} {base : Heap}
theorem scSource : FnScope ["script", "place", "cell", "digits"] ["script", "place"] (defScope sSource) := ⟨rfl, rfl, rfl, by decide +kernel, rfl, by decide +kernel, by decide +kernel⟩
theorem ok_source {f : Addr} {fd : FuncData} (F : FnP K "_law_source" sSource f fd) (T : TxtD mg) : FnOk P w K mg base CX0 1 f fd ["script", "place"] (spSource K) := by
  refine F.ok scSource (fun vs H Q E h => ?_) (fun cdv A outer s H vs Q E hr h => ?_)
  · obtain ⟨a, ns, i, rfl, _⟩ := h
    rfl
  · obtain ⟨a, ns, i, rfl, hS, hl, i0, i1, k⟩ := h
    refine ⟨_, PSs.nox (pss_cons (ps_set (i := 2) scSource.nd rfl (Or.inl rfl) (pe_ifExp (pt_cmpR op_lt (pv 1) (pe_callB call_len_seq (by rfl) T.len PySem.boot_len (pa_cons (pv 0) pa_nil)) (nomark _)) (pe_ix ix_list (pv 0) (pv 1) (fun _ _ => rfl)) pe_int))
      (pss_cons (ps_set (i := 3) scSource.nd rfl (Or.inl rfl) (pe_ifExp (pt_cmpR op_ge (pe_callB call_abs (by rfl) T.abs (by decide +kernel) (pa_cons (pv 2) pa_nil)) (pe_op op_pow pe_int pe_int) (nomark _)) (pe_callB call_abs (by rfl) T.abs (by decide +kernel) (pa_cons (pv 2) pa_nil)) pe_int))
      (pss_one (ps_ret (pe_lst (pa_cons (pv 3) (pa_cons (pe_op op_add (pe_op op_add (pe_op op_modN (pe_callTy call_int1 (by rfl) T.int (by decide +kernel) (pa_cons (pv 2) pa_nil)) pe_int) (pe_op op_mul pe_int (pv 1))) pe_int) (pa_cons pe_int pa_nil)))))))), ?_⟩
    refine sq_set (fun x H' => H = H' ∧ ∃ c : Int, x = .int c) (fun Q q => ?_) ?_
    · refine ⟨_, rfl, _, rfl, a, _, rfl, .inl hS, _, _, rfl, rfl, _, rfl, ?_⟩
      refine bool_ite (fun c => ?_) (fun c => ?_)
      · obtain ⟨x, hx, hm⟩ := atI_get (xs := ns.map V.int) i0 (by simpa using c)
        obtain ⟨z, _, rfl⟩ := List.mem_map.mp hm
        exact ⟨_, rfl, _, rfl, a, _, _, _, rfl, rfl, hS, hx, q _ _ ⟨rfl, z, rfl⟩⟩
      · exact q _ _ ⟨rfl, 0, rfl⟩
    rintro _ _ ⟨rfl, c, rfl⟩
    refine sq_set (fun x H' => H = H' ∧ ∃ d : Int, x = .int d ∧ 0 ≤ d) (fun Q q => ?_) ?_
    · refine ⟨_, rfl, _, rfl, _, _, rfl, rfl, ⟨by decide, by decide, by decide⟩, _, _, rfl, rfl, _, rfl, ?_⟩
      refine bool_ite (fun _ => ?_) (fun _ => ?_)
      · exact ⟨_, rfl, _, rfl, q _ _ ⟨rfl, _, rfl, by split <;> omega⟩⟩
      · exact q _ _ ⟨rfl, 0, rfl, by decide⟩
    rintro _ _ ⟨rfl, d, rfl, d0⟩
    refine ⟨_, rfl, _, rfl, .inl ⟨_, rfl, _, _, rfl, rfl, (by show (2305843009213693951 : Int) ≠ 0; decide), _, rfl, _, _, rfl, rfl, .inl ⟨by decide, by decide⟩, _, _, rfl, rfl, _, _, rfl, rfl, (by show 3 ≤ sizeLine; decide), fun p hp => ?_⟩⟩
    have hb := fmod_src c
    exact k p _ hp (fun b o h => by rw [upd_ne (ne_of_none h hp)]; exact h) ⟨d, _, 0, upd_same, d0, by omega, by omega, by decide, by decide⟩
theorem scDraw : FnScope ["source", "many", "digit"] ["source", "many"] (defScope sDraw) := ⟨rfl, rfl, rfl, by decide +kernel, rfl, by decide +kernel, by decide +kernel⟩
theorem ok_draw {f : Addr} {fd : FuncData} (F : FnP K "_law_draw" sDraw f fd) (T : TxtD mg) : FnOk P w K mg base CX0 1 f fd ["source", "many"] spDraw := by
  refine F.ok scDraw (fun vs H Q E h => ?_) (fun cdv A outer s H vs Q E hr h => ?_)
  · obtain ⟨a, n, m, rfl, _⟩ := h
    rfl
  · obtain ⟨a, n, m, rfl, ⟨d, s', t, hA, d0, s0, s1, t0, t1⟩, hn, m0, m1, k⟩ := h
    have hu := hu_of hr
    refine ⟨_, PSs.nox (pss_cons (ps_if (pt_cmpR op_gt (pe_ix ix_list (pv 0) pe_int (fun _ _ => rfl)) pe_int (nomark _))
        (pss_cons (ps_set (i := 2) scDraw.nd rfl (Or.inl rfl) (pe_op op_modN (pe_callTy call_int1 (by rfl) T.int (by decide +kernel) (pa_cons (pe_ix ix_list (pv 0) pe_int (fun _ _ => rfl)) pa_nil)) (pv 1)))
          (pss_cons (ps_asg (pe_op op_fdivN (pe_ix ix_list (pv 0) pe_int (fun _ _ => rfl)) (pv 1)) (pg_sub (pv 0) pe_int set_list)) (pss_one (ps_ret (pv 2))))) pss_nil)
      (pss_cons (ps_asg (pe_op op_add (pe_ix ix_list (pv 0) pe_int (fun _ _ => rfl)) pe_int) (pg_sub (pv 0) pe_int set_list))
      (pss_cons (ps_asg (pe_op op_modN (pe_callTy call_int1 (by rfl) T.int (by decide +kernel) (pa_cons (pe_op op_add (pe_op op_add (pe_op op_mul (pe_ix ix_list (pv 0) pe_int (fun _ _ => rfl)) pe_int) (pe_op op_mul (pe_op op_mul pe_int (pe_ix ix_list (pv 0) pe_int (fun _ _ => rfl))) (pe_ix ix_list (pv 0) pe_int (fun _ _ => rfl)))) pe_int) pa_nil)) pe_int) (pg_sub (pv 0) pe_int set_list))
      (pss_one (ps_ret (pe_op op_modN (pe_callTy call_int1 (by rfl) T.int (by decide +kernel) (pa_cons (pe_op op_fdivN (pe_op op_modN (pe_callTy call_int1 (by rfl) T.int (by decide +kernel) (pa_cons (pe_op op_add (pe_op op_pow (pe_op op_fdivN (pe_ix ix_list (pv 0) pe_int (fun _ _ => rfl)) pe_int) pe_int) (pe_op op_mul pe_int (pe_ix ix_list (pv 0) pe_int (fun _ _ => rfl)))) pa_nil)) pe_int) pe_int) pa_nil)) (pv 1))))))), ?_⟩
    have zA : ∀ (r : Int), 0 ≤ r.fmod m ∧ r.fmod m < m := fun r => ⟨Int.fmod_nonneg_of_pos r m0, Int.fmod_lt_of_pos r m0⟩
    have mz : m ≠ 0 := by omega
    have md : m ≠ 0 ∧ m.natAbs < 1073741824 := ⟨mz, by omega⟩
    refine sq_if (fun b H' => H = H' ∧ b = decide (0 < d)) (fun Q q => ?_) ?_ ?_
    · exact ⟨_, rfl, a, _, _, _, rfl, rfl, SqL.of hA, rfl, _, _, rfl, rfl, _, rfl, q _ _ ⟨rfl, rfl⟩⟩
    · rintro _ ⟨rfl, c⟩
      refine ⟨_, rfl, a, _, _, _, rfl, rfl, SqL.of hA, rfl, .inl ⟨_, rfl, _, rfl, _, _, rfl, rfl, mz, ?_⟩⟩
      refine ⟨_, rfl, a, _, _, _, rfl, rfl, SqL.of hA, rfl, _, rfl, _, _, rfl, rfl, md, _, rfl, a, _, _, _, rfl, rfl, hA, rfl, _, rfl, ?_⟩
      exact k _ _ (Keep.refl H).upd ⟨_, _, _, upd_same, Int.fdiv_nonneg d0 (by omega), s0, s1, t0, by omega⟩ (zA d).1 (zA d).2
    · rintro _ ⟨rfl, c⟩
      refine ⟨_, rfl, a, _, _, _, rfl, rfl, SqL.of hA, rfl, _, _, rfl, rfl, _, rfl, a, _, _, _, rfl, rfl, hA, rfl, ?_⟩
      refine ⟨_, rfl, a, _, _, _, rfl, rfl, SqL.of upd_same, rfl, _, _, rfl, rfl, .inl ⟨by show -(2 ^ 64) < s'; omega, by show s' < 2 ^ 64; omega⟩, _, rfl, a, _, _, _, rfl, rfl, SqL.of upd_same, rfl, _, _, rfl, rfl, .inl ⟨by decide, by decide⟩,
        _, rfl, a, _, _, _, rfl, rfl, SqL.of upd_same, rfl, _, _, rfl, rfl, .inr ⟨by show -(2 ^ 64) < t + 1; omega, by show t + 1 < 2 ^ 64; omega⟩, _, _, rfl, rfl, _, _, rfl, rfl, .inl ⟨_, rfl, _, _, rfl, rfl, (by show (2305843009213693951 : Int) ≠ 0; decide), _, rfl, a, _, _, _, rfl, rfl, upd_same, rfl, ?_⟩⟩
      have hb := fmod_src (s' * 69621 + 32452843 * (t + 1) * (t + 1) + 40009)
      have hq : ∀ z : Int, 0 ≤ z ∧ z < 2305843009213693951 → (z.fdiv 256).natAbs < 2 ^ 64 := fun z hz => by
        rw [Int.fdiv_eq_ediv_of_nonneg _ (by decide)]
        omega
      refine ⟨_, rfl, a, _, _, _, rfl, rfl, SqL.of upd_same, rfl, _, _, rfl, rfl, ⟨by decide, by decide⟩, _, _, rfl, rfl, ⟨by decide, by decide, hq _ hb⟩, _, rfl, a, _, _, _, rfl, rfl, SqL.of upd_same, rfl, _, _, rfl, rfl, .inl ⟨by decide, by decide⟩, _, _, rfl, rfl,
        .inl ⟨_, rfl, _, _, rfl, rfl, (by show (2305843009213693921 : Int) ≠ 0; decide), _, _, rfl, rfl, ⟨by decide, by decide⟩, .inl ⟨_, rfl, _, rfl, _, _, rfl, rfl, mz, ?_⟩⟩⟩
      refine k _ _ ((Keep.refl H).upd.upd) ⟨_, _, _, upd_same, d0, by omega, by omega, by omega, by omega⟩ (zA _).1 (zA _).2
theorem cal_draw (T : TxtD mg) (D : DefIs K mg "_law_draw" sDraw) : Cal P w K mg base CX0 "_law_draw" 1 ["source", "many"] spDraw := by
  obtain ⟨f, fd, hm, F⟩ := D
  exact ⟨f, fd, hm, F.kp, ok_draw F T, F.bindsN fun _ _ _ _ _ _ us hl => match us, hl with | [_, _], _ => rfl⟩
theorem scOf : FnScope ["source", "some"] ["source", "some"] (defScope sOf) := ⟨rfl, rfl, rfl, by decide +kernel, rfl, by decide +kernel, by decide +kernel⟩
theorem ok_of {f : Addr} {fd : FuncData} (F : FnP K "_law_of" sOf f fd) (T : TxtD mg) (cD : Cal P w K mg base CX0 "_law_draw" 1 ["source", "many"] spDraw) : FnOk P w K mg base CX0 2 f fd ["source", "some"] (spOf K) := by
  refine F.ok scOf (fun vs H Q E h => ?_) (fun cdv A outer s H vs Q E hr h => ?_)
  · obtain ⟨a, b, n, xs, rfl, _⟩ := h
    rfl
  · obtain ⟨a, b, n, xs, rfl, hs, hn, ba, hb, x0, x1, k⟩ := h
    refine ⟨_, PSs.nox (pss_one (ps_ret (pe_ix ix_list (pv 1) (pe_cal cD hr (pa_cons (pv 0) (pa_cons (pe_callB call_len_seq (by rfl) T.len PySem.boot_len (pa_cons (pv 1) pa_nil)) pa_nil))) (fun _ _ => rfl)))), ?_⟩
    have xl : 0 < xs.length := List.length_pos_iff.mpr x0
    refine ⟨_, rfl, _, rfl, _, rfl, b, _, rfl, .inl hb, a, n, _, rfl, hs, hn, by omega, by omega, fun H' i kp sr i0 i1 => ?_⟩
    obtain ⟨x, hx, hm⟩ := atI_get i0 i1
    exact ⟨b, _, _, _, rfl, rfl, kp.seq ba hb, hx, k _ _ kp sr hm⟩
theorem scWord : FnScope nWord ["source", "taken"] (defScope sWord) := ⟨rfl, rfl, rfl, by decide +kernel, rfl, by decide +kernel, by decide +kernel⟩
theorem ok_word {f : Addr} {fd : FuncData} (F : FnP K "_law_word" sWord f fd) (T : TxtD mg) (cD : Cal P w K mg base CX0 "_law_draw" 1 ["source", "many"] spDraw) : FnOk P w K mg base CX0 2 f fd ["source", "taken"] (spWord K) := by
  refine F.ok scWord (fun vs H Q E h => ?_) (fun cdv A outer s H vs Q E hr h => ?_)
  · obtain ⟨a, b, n, ts, rfl, _⟩ := h
    rfl
  · obtain ⟨a, b, n, ts, rfl, hs, hn, ba, hb, hts, k⟩ := h
    refine ⟨_, PSs.nox (pss_cons (ps_set (i := 2) scWord.nd rfl (Or.inr rfl) pe_str)
      (pss_cons (ps_set (i := 3) scWord.nd rfl (Or.inr rfl) (pe_join pe_str (pe_lc (own := [("turn", 5)]) (g := gName 5) (tt := tYes) rfl scWord.nd (pi_range1 rfl T.range (pa_cons (pe_op op_add pe_int (pe_cal cD hr (pa_cons (pv 0) (pa_cons pe_int pa_nil)))) pa_nil))
        (blkOk_by (N := nWord) (sc := defScope sWord) (by decide +kernel)) (fun _ _ _ _ _ => pg_name (i := 5) scWord.nd rfl (Or.inl rfl)) (fun _ _ _ _ _ => pts_nil) (fun _ _ _ _ _ => pe_ix ix_str (pv 2) (pe_cal cD hr (pa_cons (pv 0) (pa_cons pe_int pa_nil))) (fun _ _ => rfl)))))
      (pss_cons (ps_if (pt_cmpR op_notIn_seq (pv 3) (pv 1) rfl) (pss_one (ps_ret (pv 3))) pss_nil)
      (pss_cons (ps_setLc (i := 4) (own := [("letter", 6)]) (g := gName 6) (tt := tTest (tOp (rIn K true) (tSl rSlS (tOp _ (tVar 6) (tVar 3)) tNoPart (tPart (tC (.int 8)))) (tVar 1))) rfl scWord.nd rfl rfl (sw_true rfl rfl rfl (by decide +kernel)) (pi_str (pv 2)) (blkOk_by (N := nWord) (sc := defScope sWord) (by decide +kernel))
        (fun _ _ _ _ _ => pg_name (i := 6) scWord.nd rfl (Or.inl rfl)) (fun _ _ _ _ _ => pts_one (pt_cmpR op_notIn_seq (pe_slice sl_str (pe_op op_add_str (pv 6) (pv 3)) po_none (po_some pe_int)) (pv 1) rfl)) (fun _ _ _ _ _ => pv 6))
      (pss_one (ps_ret (pe_slice sl_str (pe_op op_add_str (pe_ix ix_list (pv 4) pe_int (fun _ _ => rfl)) (pv 3)) po_none (po_some pe_int)))))))), ?_⟩
    refine sq_set (fun x H' => H = H' ∧ x = .str letters) (fun Q q => q _ _ ⟨rfl, rfl⟩) ?_
    rintro _ _ ⟨rfl, rfl⟩
    refine sq_set (fun x H' => ∃ z, x = .str z ∧ IsWord z ∧ Keep a H H' ∧ Src H' a (n + 10)) (fun Q q => ?_) ?_
    · refine ⟨⟨_, rfl⟩, _, rfl, a, n, _, rfl, hs, by omega, by decide, by decide, fun H1 i k1 s1 i0 i1 => ⟨_, _, rfl, rfl, _, rfl, by omega, by omega, fun D hD => ?_⟩⟩
      have Da : D ≠ a := s1.ne hD
      refine lc_range (lo := 0) (n := (1 + i).toNat) (fun j H' => ∃ cs : List Nat, H' D = some (.lst ((cs.map sign).map V.str)) ∧ cs.length = j ∧ (∀ c ∈ cs, c ∈ abc) ∧ Keep a H H' ∧ Src H' a (n + 1 + j))
        ⟨[], upd_same, rfl, fun _ h => (List.not_mem_nil h).elim, k1.new hD, s1.new hD⟩ ?_ ?_
      · rintro j H' hj ⟨cs, hd, hl, ha, k2, s2⟩
        refine ⟨rfl, _, rfl, _, rfl, a, _, _, rfl, s2, by omega, by decide, by decide, fun H3 i3 k3 s3 j0 j1 => ?_⟩
        obtain ⟨c, hc, hm⟩ := abc_at j0 j1
        have hd3 := k3 _ _ Da hd
        refine ⟨_, _, c, rfl, rfl, (by show letters.cps.size ≤ sizeLine; rw [letters_cps]; decide), hc, _, hd3, by simp only [List.length_map, hl]; exact small1000 (by omega), cs ++ [c], ?_, by simp [hl], fun x hx => ?_, ?_, ?_⟩
        · rw [upd_same]; simp [sign]
        · rcases List.mem_append.mp hx with h | h
          · exact ha x h
          · rw [List.mem_singleton.mp h]; exact hm
        · intro b' o nb ho
          have e := k3 b' o nb (k2 b' o nb ho)
          by_cases hbD : b' = D
          · exfalso
            rw [hbD] at ho nb
            have := k1 D o nb ho
            rw [hD] at this
            cases this
          · rw [upd_ne hbD]; exact e
        · obtain ⟨d, s', t, h1, h2⟩ := s3
          exact ⟨d, s', t, by rw [upd_ne Da.symm]; exact h1, h2⟩
      · rintro H' ⟨cs, hd, hl, ha, k2, s2⟩
        refine ⟨_, D, cs.map sign, rfl, rfl, .inl (SqL.of hd), ?_, ?_⟩
        · have e1 : ((cs.map sign).map (·.length)).sum = cs.length := by
            clear hd hl ha
            induction cs with
            | nil => rfl
            | cons c r ih => simp only [List.map_cons, List.sum_cons, ih, List.length_cons]; show 1 + _ = _; omega
          have e2 : (PySem.Str.ofString "").length = 0 := by decide +kernel
          rw [e1, e2]
          omega
        · have e : (Txt.join (PySem.Str.ofString "") (cs.map sign)).cps.toList = cs := join_signs _ (by decide +kernel) cs
          refine q _ _ ⟨_, rfl, ⟨?_, ?_, ?_⟩, k2, s2.mono (by omega)⟩
          · rw [len_tl, e]; omega
          · rw [len_tl, e]; omega
          · rw [e]; exact fun c hc => abc_le (ha c hc)
    rintro _ H1 ⟨z, rfl, hz, k1, s1⟩
    have hb1 := k1.seq ba hb
    refine sq_if1 (fun b' H' => H1 = H' ∧ (b' = true → z ∉ ts)) (fun Q q => ?_) ?_ ?_
    · refine ⟨_, rfl, _, rfl, b, _, rfl, .inl hb1, rfl, flat_strs ts, _, rfl, q _ _ ⟨rfl, fun h => ?_⟩⟩
      have h2 : (!inV (.str z) (ts.map V.str)) = true := h
      rw [inV_str] at h2
      simpa using h2
    · rintro _ ⟨rfl, hnt⟩
      exact ⟨_, rfl, k _ _ k1 s1 hz (hnt rfl)⟩
    rintro _ ⟨rfl, _⟩
    refine sq_set (fun x H' => ∃ D, x = .ref D ∧ D ≠ a ∧ H' D = some (.lst (((abc.filter (fun c => !decide (cand z c ∈ ts))).map sign).map V.str)) ∧ Keep a H H' ∧ Src H' a (n + 10)) (fun Q q => ?_) ?_
    · refine ⟨_, rfl, _, rfl, fun D hD => ?_⟩
      have Da : D ≠ a := s1.ne hD
      refine lc_it walk_str (fun j H' => H' D = some (.lst ((((abc.take j).filter (fun c => !decide (cand z c ∈ ts))).map sign).map V.str)) ∧ Keep a H H' ∧ Src H' a (n + 10))
        ⟨upd_same, k1.new hD, s1.new hD⟩ (fun _ _ _ _ => trivial) ?_ ?_
      · rintro j x H' _ hj ⟨hd, k2, s2⟩ ⟨rfl, c, hc, rfl⟩
        have hc2 : abc[j]? = some c := by
          rw [letters_cps] at hc
          simpa using hc
        have ht : abc.take (j + 1) = abc.take j ++ [c] := by rw [List.take_add_one, hc2]; rfl
        refine ⟨rfl, _, rfl, _, rfl, _, _, rfl, rfl, ?_, _, rfl, _, rfl, ?_, _, rfl, b, _, rfl, .inl (k2.seq ba hb), rfl, flat_strs ts, _, rfl, ?_⟩
        · have := hz.2.1
          show 1 + z.length ≤ sizeLine
          exact Nat.le_trans (show 1 + z.length ≤ 9 by omega) (by decide)
        · show (sign c ++ z).length ≤ sizeLine
          have := hz.2.1
          rw [len_tl] at this
          rw [len_tl, tl_app]
          simp only [List.length_append, tl_sign, List.length_singleton]
          exact Nat.le_trans (show 1 + z.cps.toList.length ≤ 9 by omega) (by decide)
        · refine str_notmem (fun h => ?_) (fun h => ?_)
          · refine ⟨_, rfl, _, hd, ?_, ?_, ?_, ?_⟩
            · simp only [List.length_map]
              refine Nat.lt_of_le_of_lt (List.length_filter_le _ _) (Nat.lt_of_le_of_lt (List.length_take_le' _ _) (by decide))
            · rw [upd_same, ht, List.filter_append, List.map_append, List.map_append]
              have e : [c].filter (fun c => !decide (cand z c ∈ ts)) = [c] := by
                have h2 : cand z c ∉ ts := h
                simp [h2]
              rw [e]
              rfl
            · intro b' o nb ho
              by_cases hbD : b' = D
              · exfalso
                rw [hbD] at ho nb
                have := k1 D o nb ho
                rw [hD] at this
                cases this
              · rw [upd_ne hbD]; exact k2 b' o nb ho
            · obtain ⟨d, s', t, h1, h2⟩ := s2
              exact ⟨d, s', t, by rw [upd_ne Da.symm]; exact h1, h2⟩
          · refine ⟨?_, k2, s2⟩
            rw [ht, List.filter_append]
            have e : [c].filter (fun c => !decide (cand z c ∈ ts)) = [] := by
              have h2 : cand z c ∈ ts := h
              simp [h2]
            rw [e, List.append_nil]
            exact hd
      · rintro H' ⟨hd, k2, s2⟩
        refine q _ _ ⟨D, rfl, Da, ?_, k2, s2⟩
        have e : abc.take letters.cps.size = abc := by rw [letters_cps]; rfl
        rw [e] at hd
        exact hd
    rintro _ H2 ⟨D, rfl, Da, hd, k2, s2⟩
    have hne := free_some z ts hts
    obtain ⟨c, r, hcr⟩ := List.exists_cons_of_ne_nil hne
    have hc : c ∈ abc.filter (fun c => !decide (cand z c ∈ ts)) := by rw [hcr]; exact List.mem_cons_self
    obtain ⟨hca, hcn⟩ := List.mem_filter.mp hc
    have hcn2 : cand z c ∉ ts := by simpa using hcn
    rw [hcr] at hd
    refine ⟨_, rfl, D, _, _, _, rfl, rfl, SqL.of hd, atI_nat (j := 0) rfl, _, rfl, _, _, rfl, rfl, ?_, _, rfl, _, rfl, ?_, k _ _ k2 s2 (cand_word hz hca) hcn2⟩
    · have := hz.2.1
      show 1 + z.length ≤ sizeLine
      exact Nat.le_trans (show 1 + z.length ≤ 9 by omega) (by decide)
    · show (sign c ++ z).length ≤ sizeLine
      have := hz.2.1
      rw [len_tl] at this
      rw [len_tl, tl_app]
      simp only [List.length_append, tl_sign, List.length_singleton]
      exact Nat.le_trans (show 1 + z.cps.toList.length ≤ 9 by omega) (by decide)
theorem scIsWord : FnScope ["value", "letter"] ["value"] (defScope sIsWord) := ⟨rfl, rfl, rfl, by decide +kernel, rfl, by decide +kernel, by decide +kernel⟩
theorem ok_isWord {f : Addr} {fd : FuncData} (F : FnP K "is_word" sIsWord f fd) (T : TxtP mg) : FnOk P w K mg base CX0 1 f fd ["value"] (spIsWord K) := by
  obtain ⟨tk, hlw⟩ := T.longest
  refine F.ok scIsWord (fun vs H Q E h => ?_) (fun cdv A outer s H vs Q E hr h => ?_)
  · obtain ⟨v, b, rfl, _⟩ := h
    rfl
  · obtain ⟨v, b, rfl, hv, k⟩ := h
    refine ⟨_, PSs.nox (pss_cons (ps_if (PW.pt (pw_or (pt_not (pt_val (pe_callB call_isi (by rfl) T.isi (by decide +kernel) (pa_cons (pv 0) (pa_cons (pe_bltn (v := .ty "str") (by rfl) T.str (by decide +kernel) rfl) pa_nil)))))
        (pw_or1 (pt_not (pt_chain op_le op_le pe_int (pe_callB call_len_str (by rfl) T.len PySem.boot_len (pa_cons (pv 0) pa_nil)) (pe_glob (v := .int 8) rfl hlw ⟨_, rfl⟩)))))) (pss_one (ps_ret pe_bl)) pss_nil)
      (pss_one (ps_ret (pe_callB (cr_all rfl) (by rfl) T.all (by decide +kernel) (pa_cons (pe_lc (own := [("letter", 1)]) (g := gName 1) (tt := tYes) rfl scIsWord.nd (pi_str (pv 0)) (blkOk_by (N := ["value", "letter"]) (sc := defScope sIsWord) (by decide +kernel))
        (fun _ _ _ _ _ => pg_name (i := 1) scIsWord.nd rfl (Or.inl rfl)) (fun _ _ _ _ _ => pts_nil) (fun _ _ _ _ _ => pe_chain op_le_str op_le_str pe_str (pv 1) pe_str)) pa_nil))))), ?_⟩
    have isz : ∀ z : Str, z.length ≤ 1000 → z.length ≤ sizeLine := fun z hz => Nat.le_trans hz (by decide)
    rcases hv with ⟨z, rfl, hz, rfl⟩ | ⟨rfl, t, ht, kt⟩
    · refine sq_if1 (fun b' H' => H = H' ∧ b' = !(decide (1 ≤ z.length) && decide (z.length ≤ 8))) (fun Q q => ?_) ?_ ?_
      · refine ⟨_, rfl, _, _, _, _, true, rfl, .ty _, ty_str z, kit_ty (by decide +kernel), true, rfl, iteF ⟨_, rfl, _, rfl, isz z hz, _, _, rfl, rfl, _, rfl, ?_⟩⟩
        refine bool_ite (fun c => ?_) (fun c => ?_)
        · refine ⟨_, _, rfl, rfl, _, rfl, q _ _ ⟨rfl, ?_⟩⟩
          have c1 : 1 ≤ z.length := by omega
          rw [decide_eq_true c1, Bool.true_and]
          congr 1
          exact decide_eq_decide.mpr (by omega)
        · refine ⟨_, rfl, q _ _ ⟨rfl, ?_⟩⟩
          have c1 : ¬ 1 ≤ z.length := by omega
          rw [decide_eq_false c1, Bool.false_and]
      · rintro _ ⟨rfl, e⟩
        have e1 : isWordB z = false := by
          unfold isWordB
          rw [← Bool.and_assoc]
          have e2 : (decide (1 ≤ z.length) && decide (z.length ≤ 8)) = false := by
            cases q : (decide (1 ≤ z.length) && decide (z.length ≤ 8)) with
            | false => rfl
            | true => rw [q] at e; cases e
          rw [e2, Bool.false_and]
        rw [e1] at k
        exact k _ (Same.refl H)
      · rintro _ ⟨rfl, e⟩
        have e2 : (decide (1 ≤ z.length) && decide (z.length ≤ 8)) = true := by
          cases q : (decide (1 ≤ z.length) && decide (z.length ≤ 8)) with
          | true => rfl
          | false => rw [q] at e; cases e
        have e1 : isWordB z = z.cps.toList.all fun c => decide (97 ≤ c) && decide (c ≤ 122) := by
          unfold isWordB
          rw [← Bool.and_assoc, e2, Bool.true_and]
        refine ⟨_, rfl, z, rfl, fun D hD => ?_⟩
        refine lc_it walk_str (fun j H' => H' D = some (.lst (((z.cps.toList.take j).map fun c => decide (97 ≤ c) && decide (c ≤ 122)).map V.bl)) ∧ Same H H')
          ⟨upd_same, fun b o h => by rw [upd_ne (ne_of_none h hD)]; exact h⟩ (fun _ _ _ _ => trivial) ?_ ?_
        · rintro j x _ H' hj ⟨hd, k2⟩ ⟨rfl, c, hc, rfl⟩
          have hc2 : z.cps.toList[j]? = some c := by simpa using hc
          have ht : z.cps.toList.take (j + 1) = z.cps.toList.take j ++ [c] := by rw [List.take_add_one, hc2]; rfl
          have fin : ∀ b' : Bool, b' = (decide (97 ≤ c) && decide (c ≤ 122)) → ∃ acc, H' D = some (.lst acc) ∧ acc.length < sizeLine ∧ ((upd H' D (.lst (acc ++ [.bl b']))) D = some (.lst (((z.cps.toList.take (j + 1)).map fun c => decide (97 ≤ c) && decide (c ≤ 122)).map V.bl)) ∧ Same H (upd H' D (.lst (acc ++ [.bl b'])))) := fun b' hb' => by
            refine ⟨_, hd, ?_, ?_, fun b o h => ?_⟩
            · simp only [List.length_map]
              rw [len_tl] at hz
              exact Nat.lt_of_le_of_lt (List.length_take_le' _ _) (Nat.lt_of_le_of_lt hz (by decide))
            · rw [upd_same, ht, List.map_append, List.map_append, hb']
              rfl
            · by_cases hbD : b = D
              · rw [hbD, hD] at h
                cases h
              · rw [upd_ne hbD]; exact k2 b o h
          have la : ∀ c d : Nat, decide (([c] : List Nat) < [d]) = decide (c < d) := lt_sign
          refine ⟨rfl, _, rfl, _, _, rfl, rfl, _, rfl, ?_⟩
          show if (!decide ([c] < [97])) = true then _ else _
          rw [lt_sign]
          by_cases c1 : c < 97
          · rw [decide_eq_true c1, Bool.not_true, if_neg Bool.false_ne_true]
            exact fin false (by rw [decide_eq_false (by omega : ¬ 97 ≤ c), Bool.false_and])
          · rw [decide_eq_false c1, Bool.not_false, if_pos rfl]
            refine ⟨_, _, rfl, rfl, ?_⟩
            show ∃ acc, _ ∧ _ ∧ _
            have e3 : (!decide ([122] < ([c] : List Nat))) = (decide (97 ≤ c) && decide (c ≤ 122)) := by
              rw [lt_sign, decide_eq_true (by omega : 97 ≤ c), Bool.true_and]
              by_cases c2 : c ≤ 122
              · rw [decide_eq_true c2, decide_eq_false (by omega : ¬ 122 < c)]; rfl
              · rw [decide_eq_false c2, decide_eq_true (by omega : 122 < c)]; rfl
            exact fin _ e3
        · rintro H' ⟨hd, k2⟩
          have e4 : z.cps.toList.take z.cps.size = z.cps.toList := List.take_of_length_le (by simp)
          rw [e4] at hd
          refine ⟨D, _, rfl, SqL.of hd, ?_⟩
          have e5 : (z.cps.toList.map fun c => decide (97 ≤ c) && decide (c ≤ 122)).all id = isWordB z := by
            rw [e1, List.all_map]
            rfl
          show Q (.bl _) H'
          rw [e5]
          exact k _ k2
    · refine sq_if1 (fun b' H' => H = H' ∧ b' = true) (fun Q q => ⟨_, rfl, _, _, _, _, false, rfl, .ty _, ht, kit_ty kt, false, rfl, iteT (q _ _ ⟨rfl, rfl⟩)⟩) ?_ ?_
      · rintro _ ⟨rfl, _⟩
        exact k _ (Same.refl H)
      · rintro _ ⟨_, e⟩
        cases e
theorem scCopied : FnScope ["value", "part", "name"] ["value"] (defScope sCopied) := ⟨rfl, rfl, rfl, by decide +kernel, rfl, by decide +kernel, by decide +kernel⟩
theorem ok_copied {f : Addr} {fd : FuncData} (F : FnP K "copied" sCopied f fd) (T : TxtP mg) : FnOk P w K mg base CX0 1 f fd ["value"] (spCopied K) := by
  refine F.ok scCopied (fun vs H Q E h => ?_) (fun cdv A outer s H vs Q E hr h => ?_)
  · obtain ⟨v, rfl, _⟩ := h
    rfl
  · obtain ⟨v, rfl, ⟨t1, h1, k1⟩, ⟨t2, h2, k2⟩, ⟨t3, h3, k3⟩, k⟩ := h
    refine ⟨_, PSs.nox (pss_cons (ps_if (pt_val (pe_callB call_isi (by rfl) T.isi (by decide +kernel) (pa_cons (pv 0) (pa_cons (pe_bltn (v := .ty "list") (by rfl) T.list (by decide +kernel) rfl) pa_nil)))) (pss_one ps_never) pss_nil)
      (pss_cons (ps_if (pt_val (pe_callB call_isi (by rfl) T.isi (by decide +kernel) (pa_cons (pv 0) (pa_cons (pe_bltn (v := .ty "tuple") (by rfl) T.tuple (by decide +kernel) rfl) pa_nil)))) (pss_one ps_never) pss_nil)
      (pss_cons (ps_if (pt_val (pe_callB call_isi (by rfl) T.isi (by decide +kernel) (pa_cons (pv 0) (pa_cons (pe_bltn (v := .ty "dict") (by rfl) T.dict (by decide +kernel) rfl) pa_nil)))) (pss_one ps_never) pss_nil)
      (pss_one (ps_ret (pv 0)))))), ?_⟩
    exact ⟨_, rfl, _, _, _, _, false, rfl, .ty _, h1, kit_ty k1, false, rfl, iteF ⟨_, rfl, _, _, _, _, false, rfl, .ty _, h2, kit_ty k2, false, rfl, iteF ⟨_, rfl, _, _, _, _, false, rfl, .ty _, h3, kit_ty k3, false, rfl, iteF ⟨_, rfl, k⟩⟩⟩⟩
theorem scOdd : FnScope ["source"] ["source"] (defScope sOdd) := ⟨rfl, rfl, rfl, by decide +kernel, rfl, by decide +kernel, by decide +kernel⟩
theorem ok_odd {f : Addr} {fd : FuncData} (F : FnP K "_law_odd" sOdd f fd) (cO : Cal P w K mg base CX0 "_law_of" 2 ["source", "some"] (spOf K)) : FnOk P w K mg base CX0 3 f fd ["source"] spOdd := by
  refine F.ok scOdd (fun vs H Q E h => ?_) (fun cdv A outer s0 H vs Q E hr h => ?_)
  · obtain ⟨a, n, rfl, _⟩ := h
    rfl
  · obtain ⟨a, n, rfl, hs, hn, k⟩ := h
    refine ⟨_, PSs.nox (pss_one (ps_ret (pe_cal cO hr (pa_cons (pv 0) (pa_cons (pe_lst (pa_cons pe_str (pa_cons pe_str (pa_cons pe_str (pa_cons pe_str (pa_cons pe_str (pa_cons pe_str (pa_cons pe_str (pa_cons pe_str (pa_cons pe_str
      (pa_cons pe_non (pa_cons pe_int (pa_cons pe_int (pa_cons pe_bl (pa_cons pe_bl (pa_cons (pe_un un_neg pe_int) (pa_cons (pe_op op_pow pe_int pe_int) (pa_cons (pe_tup (pa_cons pe_str pa_nil)) (pa_cons (pe_lst (pa_cons pe_str pa_nil))
      (pa_cons (pe_disp (pps_cons pe_str pe_str pps_nil) (by rfl) (by rfl) (fun z => by cases z) (by decide)) (pa_cons (pe_tup pa_nil) (pa_cons (pe_lst pa_nil) pa_nil)))))))))))))))))))))) pa_nil))))), ?_⟩
    refine ⟨_, rfl, _, rfl, _, _, rfl, rfl, ⟨by decide, by decide, by decide⟩, (by show 1 ≤ sizeLine; decide), fun t1 n1 => ⟨(by show 1 ≤ sizeLine; decide), fun l1 n2 => fun d1 n3 => ⟨upd_same, [(.inr "a", .str "b")], rfl, (by show 1 ≤ 15; decide), (by show 0 ≤ sizeLine; decide), fun t2 n4 => ⟨(by show 0 ≤ sizeLine; decide), fun l2 n5 => ⟨(by show 21 ≤ sizeLine; decide), fun L n6 => ?_⟩⟩⟩⟩⟩
    have s1 := Lw.Same.new (o := .tup [.str "a"]) (Same.refl H) n1
    have s2 := Lw.Same.new (o := .lst [.str "a"]) (Same.refl _) n2
    have s3 := same_new2 (o := .dK []) (u := .dK (mergeK [] [(.inr "a", .str "b")])) n3
    have s4 := Lw.Same.new (o := .tup []) (Same.refl _) n4
    have s5 := Lw.Same.new (o := .lst []) (Same.refl _) n5
    have s6 := Lw.Same.new (o := .lst [.str "", .str "abcdefghi", .str "A", .str "aB", .str "a1", .str "a b", .str " a", .str "a_", .str "-", .non, .int 0, .int 1, .bl true, .bl false, .int (-7), .int (10 ^ 30), .ref t1, .ref l1, .ref d1, .ref t2, .ref l2]) (Same.refl _) n6
    have e6 := s6
    have e5 := s5.trans e6
    have e4 := s4.trans e5
    have e3 := s3.trans e4
    have e2 := s2.trans e3
    have e1 := s1.trans e2
    have a1 : t1 ≠ a := hs.ne n1
    have a2 : l1 ≠ a := (hs.same s1).ne n2
    have a3 : d1 ≠ a := (hs.same (s1.trans s2)).ne n3
    have a4 : t2 ≠ a := (hs.same ((s1.trans s2).trans s3)).ne n4
    have a5 : l2 ≠ a := (hs.same (((s1.trans s2).trans s3).trans s4)).ne n5
    have a6 : L ≠ a := (hs.same ((((s1.trans s2).trans s3).trans s4).trans s5)).ne n6
    refine ⟨a, L, n, _, rfl, hs.same e1, by omega, a6, SqL.of upd_same, (fun z => by cases z), (by show 21 ≤ 100000; decide), fun H' x kp sr hx => ?_⟩
    refine k H' x ((Keep.of_same e1).trans kp) sr (Odd.keep kp ?_)
    simp only [List.mem_cons, List.not_mem_nil, or_false] at hx
    rcases hx with rfl | rfl | rfl | rfl | rfl | rfl | rfl | rfl | rfl | rfl | rfl | rfl | rfl | rfl | rfl | rfl | rfl | rfl | rfl | rfl | rfl
    · exact .str (by decide +kernel)
    · exact .str (by decide +kernel)
    · exact .str (by decide +kernel)
    · exact .str (by decide +kernel)
    · exact .str (by decide +kernel)
    · exact .str (by decide +kernel)
    · exact .str (by decide +kernel)
    · exact .str (by decide +kernel)
    · exact .str (by decide +kernel)
    · exact .non
    · exact .int _
    · exact .int _
    · exact .bl _
    · exact .bl _
    · exact .int _
    · exact .int _
    · exact .tup a1 (e2 _ _ upd_same) (.inr rfl)
    · exact .lst a2 (e3 _ _ upd_same) (.inr rfl)
    · exact .dic a3 (e4 _ _ upd_same)
    · exact .tup a4 (e5 _ _ upd_same) (.inl rfl)
    · exact .lst a5 (e6 _ _ upd_same) (.inl rfl)
end
end Lw

set_option Elab.async false
set_option linter.all false
set_option maxRecDepth 100000
set_option maxHeartbeats 4000000
namespace Lw
open PySem PySem.Spec PyProof.Rows L2
abbrev sBT : Stmt := inClass (top 8) 0
abbrev sColI : Stmt := inClass (top 11) 0
abbrev sTabI : Stmt := inClass (top 12) 2
abbrev sTabOf : Stmt := inClass (top 12) 3
/-! columns -/
def colF (z a b c : V) : List (Str × V) := putF "empty" c (putF "fixed" b (putF "large" a (putF "name" z [])))
theorem colF_eq (z a b c : V) : colF z a b c = ([("name", z), ("large", a), ("fixed", b), ("empty", c)] : List (Str × V)) := by
  have e1 : ¬ (("name" : Str) = "large") := by decide +kernel
  have e2 : ¬ (("name" : Str) = "fixed") := by decide +kernel
  have e3 : ¬ (("name" : Str) = "empty") := by decide +kernel
  have e4 : ¬ (("large" : Str) = "fixed") := by decide +kernel
  have e5 : ¬ (("large" : Str) = "empty") := by decide +kernel
  have e6 : ¬ (("fixed" : Str) = "empty") := by decide +kernel
  simp only [colF, putF, e1, e2, e3, e4, e5, e6, if_false]
theorem colF_name (z a b c : V) : (colF z a b c).lookup ("name" : Str) = some z := by rw [colF_eq, List.lookup_cons_self]
structure TxtC (K : PySem.W.Frag) (mg : Str → Option Value) (CC CT : Addr) : Prop where
  cl : Cls K CC
  n1 : NoAttr K CC "name"
  n2 : NoAttr K CC "large"
  n3 : NoAttr K CC "fixed"
  n4 : NoAttr K CC "empty"
  gC : mg "Column" = some (.ref CC)
  gT : mg "Table" = some (.ref CT)
  rd : ClX.CRead K CT (.type "type")
  key : ∃ u, ClX.CVal K CT (.type "type") "KEY" (.str "key") u
  most : ∃ u, ClX.CVal K CT (.type "type") "MOST" (.int 3) u
def spColI (CC : Addr) : Sp := fun vs H Q _ => ∃ (p dx : Addr) (z : Str) (a b c : V), vs = [.ref p, .str z, a, b, c] ∧ IsWord z ∧ z ≠ "key" ∧ H p = some (.ins CC dx []) ∧
  ∀ G, (∀ x o, x ≠ p → H x = some o → G x = some o) → G p = some (.ins CC dx (colF (.str z) a b c)) → Q .non G
abbrev nCol : List Str := ["self", "name", "large", "fixed", "empty"]
abbrev ColD (K : PySem.W.Frag) (f : Addr) (fd : FuncData) : Prop := FunD K "__init__" "Column.__init__" (defArgs sColI) (defBody sColI) (defScope sColI) [] [("large", .bl false), ("fixed", .bl false), ("empty", .bl false)] f fd
section
variable {P : Program} {w : World} {K : PySem.W.Frag} {mg : Str → Option Value} {base : Heap} {CC CT : Addr}
theorem scColI : FnScope nCol nCol (defScope sColI) := ⟨rfl, rfl, rfl, by decide +kernel, rfl, by decide +kernel, by decide +kernel⟩
theorem ok_colI {f : Addr} {fd : FuncData} (F : ColD K f fd) (T : TxtC K mg CC CT) (cW : Cal P w K mg base CX0 "is_word" 1 ["value"] (spIsWord K)) : FnOk P w K mg base CX0 2 f fd nCol (spColI CC) := by
  obtain ⟨uk, hk⟩ := T.key
  refine F.ok scColI (fun vs H Q E h => ?_) (fun cdv A outer s H vs Q E hr h => ?_)
  · obtain ⟨p, dx, z, a, b, c, rfl, _⟩ := h
    rfl
  · obtain ⟨p, dx, z, a, b, c, rfl, hz, hne, hp, k⟩ := h
    refine ⟨_, PSs.nox (pss_cons (ps_if (PW.pt (pw_or (pt_not (pt_val (pe_cal cW hr (pa_cons (pv 1) pa_nil)))) (pw_or1 (pt_cmpR op_eq (pv 1) (ClX.pe_cval (pe_glob (v := .ref CT) rfl T.gT rfl)) (nomark _))))) (pss_one ps_never) pss_nil)
      (pss_cons (ps_fld (pv 0) (pv 1) rfl) (pss_cons (ps_fld (pv 0) (pv 2) rfl) (pss_cons (ps_fld (pv 0) (pv 3) rfl) (pss_one (ps_fld (pv 0) (pv 4) rfl)))))), ?_⟩
    refine sq_if1 (fun b' H' => Same H H' ∧ b' = false) (fun Q q => ?_) ?_ ?_
    · refine ⟨_, rfl, _, _, rfl, .inl ⟨z, rfl, Nat.le_trans hz.2.1 (by decide), rfl⟩, fun H' s => ⟨_, rfl, ?_⟩⟩
      rw [isWordB_true hz]
      refine iteF ⟨_, rfl, CT, _, _, uk, rfl, T.rd, hk, rfl, _, rfl, q _ _ ⟨s, decide_eq_false fun e => hne (V.str.inj e)⟩⟩
    · rintro _ ⟨_, e⟩
      cases e
    rintro H1 ⟨s1, _⟩
    have p1 := s1 _ _ hp
    refine ⟨_, rfl, _, rfl, p, CC, dx, _, rfl, p1, T.cl, T.n1, (by show 0 < 1000; decide), _, rfl, _, rfl, p, CC, dx, _, rfl, upd_same, T.cl, T.n2, (by show 1 < 1000; decide), ?_⟩
    refine ⟨_, rfl, _, rfl, p, CC, dx, _, rfl, upd_same, T.cl, T.n3, ?_, _, rfl, _, rfl, p, CC, dx, _, rfl, upd_same, T.cl, T.n4, ?_, ?_⟩
    · have e1 : ¬ (("name" : Str) = "large") := by decide +kernel
      simp only [putF, e1, if_false]
      show 2 < 1000
      decide
    · have e1 : ¬ (("name" : Str) = "large") := by decide +kernel
      have e2 : ¬ (("name" : Str) = "fixed") := by decide +kernel
      have e4 : ¬ (("large" : Str) = "fixed") := by decide +kernel
      simp only [putF, e1, e2, e4, if_false]
      show 3 < 1000
      decide
    · refine k _ (fun x o n h => ?_) upd_same
      rw [upd_ne n, upd_ne n, upd_ne n, upd_ne n]
      exact s1 x o h
end
/-! BadTable(at) -/
def atF (v : V) : List (Str × V) := [("at", v)]
def spBT (K : PySem.W.Frag) (C : Addr) : Sp := fun vs H Q _ => ∃ (a : Addr) (v : V), vs = [.ref a, v] ∧ NotTy K H v "list" ∧ NotTy K H v "tuple" ∧ NotTy K H v "dict" ∧ H a = some (exo a C none) ∧
  ∀ d, H d = none → d ≠ a → Q .non (upd (upd H d (exd d (atF v))) a (exo a C (some d)))
structure TxtB (K : PySem.W.Frag) (mg : Str → Option Value) (C : Addr) : Prop where
  oex : OexC K C
  noA : PySem.W.findIn K (.ref C) "at" = some none
  gC : mg "BadTable" = some (.ref C)
section
variable {P : Program} {w : World} {K : PySem.W.Frag} {mg : Str → Option Value} {base : Heap} {C CT CC : Addr}
theorem nt_int {H : Hp} (i : Int) : NotTy K H (.int i) "list" ∧ NotTy K H (.int i) "tuple" ∧ NotTy K H (.int i) "dict" :=
  ⟨⟨_, ty_int i, by decide +kernel⟩, ⟨_, ty_int i, by decide +kernel⟩, ⟨_, ty_int i, by decide +kernel⟩⟩
theorem scBT : FnScope ["self", "at"] ["self", "at"] (defScope sBT) := ⟨rfl, rfl, rfl, by decide +kernel, rfl, by decide +kernel, by decide +kernel⟩
theorem ok_bt {f : Addr} {fd : FuncData} (F : MethD K "__init__" "BadTable.__init__" sBT f fd) (T : TxtB K mg C) (cC : Cal P w K mg base CX0 "copied" 1 ["value"] (spCopied K)) : FnOk P w K mg base CX0 2 f fd ["self", "at"] (spBT K C) := by
  refine F.ok scBT (fun vs H Q E h => ?_) (fun cdv A outer s H vs Q E hr h => ?_)
  · obtain ⟨a, v, rfl, _⟩ := h
    rfl
  · obtain ⟨a, v, rfl, h1, h2, h3, ha, k⟩ := h
    refine ⟨_, PSs.nox (pss_one (ps_ost (pv 0) (pe_cal cC hr (pa_cons (pv 1) pa_nil)))), ?_⟩
    exact ⟨_, rfl, v, rfl, h1, h2, h3, _, rfl, a, C, rfl, T.oex, T.noA, .inl ⟨ha, fun dx hn ne => k dx hn ne⟩⟩
structure BadT (P : Program) (w : World) (K : PySem.W.Frag) (mg : Str → Option Value) (base : Heap) (C : Addr) : Prop where
  T : TxtB K mg C
  ex : ∃ f fd, PySem.W.findIn K (.ref C) "__init__" = some (some (.ref f)) ∧ PySem.W.typeIn K (.ref f) = some (.type "function") ∧ FnOk P w K mg base CX0 2 f fd ["self", "at"] (spBT K C) ∧ Binds K fd ["self", "at"] []
end
section
variable {X : Cx} {C : Addr} {e : Expr} {t : TA} {p pos pos2 : Pos} {W : WX}
theorem ps_badt (B : BadT X.prog X.w X.K X.mg X.base C) (hc : X.calm = true) (hr : Room 3 X.A) (tk : L2N.Takes X W) (ha : PA X [e] t) (hg : Gl X "BadTable" := by rfl)
    (he : starEach [e] X.env = (false, eval e X.env) :: starEach [] X.env := by rfl) (hpl : (backTo pos (starEach [] X.env)).any (·.1) = false := by rfl) :
    PS X (.Raise (some (.Call (.Name "BadTable" p) [e] [] pos)) none pos2) (fun _ σ H => tMkO C (spBT X.K C) [] t σ H fun cls d H' => W cls d σ H') := by
  obtain ⟨f, fd, h1, h2, F, b⟩ := B.ex
  exact L2N.ps_raise hc tk (pmk_oexN B.T.oex h1 h2 F hr b .nil pass0 B.T.gC ha hg (by decide) he hpl)
end
theorem badt_tail {K : PySem.W.Frag} {C : Addr} {i : Int} {H : Hp} {E : XK} (k : ∀ d G, H d = none → Same H G → G d = some (.xd (atF (.int i))) → E (.ref C) (some d) G) :
    ([.int i] : List V).length ≤ 1000 ∧ ∀ a, H a = none → spBT K C (.ref a :: ([.int i] ++ [])) (upd H a (exo a C none)) (fun v H2 => v = .non ∧ ∃ (d : Addr) (fs : List (Str × V)), H2 a = some (exo a C (some d)) ∧ H2 d = some (exd d fs) ∧ H d = none ∧ E (.ref C) (some d) (upd (del H2 a) d (.xd fs))) (fun _ _ _ => False) := by
  refine ⟨by show 1 ≤ 1000; decide, fun a na => ⟨a, .int i, rfl, (nt_int i).1, (nt_int i).2.1, (nt_int i).2.2, upd_same, fun d nd da => ⟨rfl, d, atF (.int i), upd_same, ?_, ?_, ?_⟩⟩⟩
  · rw [upd_ne da, upd_same]
  · exact (exc_end (fs := atF (.int i)) na nd da).1
  · exact k d _ (exc_end (fs := atF (.int i)) na nd da).1 (exc_end na nd da).2 upd_same
end Lw

set_option Elab.async false
set_option linter.all false
set_option maxRecDepth 100000
set_option maxHeartbeats 4000000
namespace Lw
open PySem PySem.Spec PyProof.Rows L2
/-! values of built-in types that are no columns -/
inductive Pl (H : Hp) : V → String → Prop where
  | non : Pl H .non "NoneType"
  | str (z : Str) : Pl H (.str z) "str"
  | int (i : Int) : Pl H (.int i) "int"
  | bl (b : Bool) : Pl H (.bl b) "bool"
  | tup {p : Addr} {xs : List V} (h : H p = some (.tup xs)) : Pl H (.ref p) "tuple"
  | lst {p : Addr} {xs : List V} (h : H p = some (.lst xs)) : Pl H (.ref p) "list"
  | dic {p : Addr} {kvs : List (Key × V)} (h : H p = some (.dK kvs)) : Pl H (.ref p) "dict"
def plTys : List String := ["NoneType", "str", "int", "bool", "tuple", "list", "dict"]
theorem Pl.mem {H : Hp} {v : V} {t : String} (h : Pl H v t) : t ∈ plTys := by cases h <;> simp [plTys]
theorem Pl.ty {K : PySem.W.Frag} {H : Hp} {v : V} {t : String} (h : Pl H v t) : TyX K H v (.type t) := by
  cases h with
  | non => exact ty_non
  | str z => exact ty_str z
  | int i => exact ty_int i
  | bl b => exact ty_bl b
  | tup h => exact .base (.tup h)
  | lst h => exact .base (.lst h)
  | dic h => exact .base (.dK h)
theorem Odd.pl {a : Addr} {H : Hp} {v : V} (h : Odd a H v) : ∃ t, Pl H v t := by
  cases h with
  | @str z h => exact ⟨_, .str z⟩
  | non => exact ⟨_, .non⟩
  | int i => exact ⟨_, .int i⟩
  | bl b => exact ⟨_, .bl b⟩
  | tup n h e => exact ⟨_, .tup h⟩
  | lst n h e => exact ⟨_, .lst h⟩
  | dic n h => exact ⟨_, .dic h⟩
/-- a kept value -/
def PlK (a : Addr) (H : Hp) (v : V) : Prop := ∃ t, Pl H v t ∧ v ≠ .ref a
theorem PlK.keep {a : Addr} {H H' : Hp} {v : V} (k : Keep a H H') (h : PlK a H v) : PlK a H' v := by
  obtain ⟨t, h, n⟩ := h
  have ne : ∀ {p : Addr}, V.ref p ≠ V.ref a → p ≠ a := fun n e => n (by rw [e])
  refine ⟨t, ?_, n⟩
  cases h with
  | non => exact .non
  | str z => exact .str z
  | int i => exact .int i
  | bl b => exact .bl b
  | tup h => exact .tup (k _ _ (ne n) h)
  | lst h => exact .lst (k _ _ (ne n) h)
  | dic h => exact .dic (k _ _ (ne n) h)
theorem Odd.plK {a : Addr} {H : Hp} {v : V} (h : Odd a H v) : PlK a H v := by
  have ne : ∀ {p : Addr}, p ≠ a → V.ref p ≠ V.ref a := fun n e => n (by cases e; rfl)
  cases h with
  | @str z h => exact ⟨_, .str z, fun e => by cases e⟩
  | non => exact ⟨_, .non, fun e => by cases e⟩
  | int i => exact ⟨_, .int i, fun e => by cases e⟩
  | bl b => exact ⟨_, .bl b, fun e => by cases e⟩
  | tup n h e => exact ⟨_, .tup h, ne n⟩
  | lst n h e => exact ⟨_, .lst h, ne n⟩
  | dic n h => exact ⟨_, .dic h, ne n⟩
/-- an entry: a column of this name, or no column; never what stands at a -/
def Kd (CC a : Addr) (H : Hp) (k : Option Str) (v : V) : Prop := match k with
  | some z => IsWord z ∧ ∃ (q dx : Addr) (x y u : V), v = .ref q ∧ q ≠ a ∧ H q = some (.ins CC dx (colF (.str z) x y u))
  | none => PlK a H v
theorem Kd.keep {CC a : Addr} {H H' : Hp} (e : Keep a H H') {k : Option Str} {v : V} (h : Kd CC a H k v) : Kd CC a H' k v := by
  cases k with
  | none => exact PlK.keep e h
  | some z =>
    obtain ⟨hz, q, dx, x, y, u, hv, n, hq⟩ := h
    exact ⟨hz, q, dx, x, y, u, hv, n, e _ _ n hq⟩
theorem Kd.at {CC a b : Addr} {H : Hp} (hb : H b = none ∨ ∃ C dx fs, H b = some (.ins C dx fs) ∧ C ≠ CC) {k : Option Str} {v : V} (h : Kd CC a H k v) : Kd CC b H k v := by
  have ne : ∀ {p : Addr} {o : HO}, H p = some o → (∀ C dx fs, o = .ins C dx fs → C = CC) → p ≠ b := fun {p o} e hc z => by
    subst z
    rcases hb with hb | ⟨C, dx, fs, hb, hn⟩
    · rw [e] at hb; cases hb
    · rw [e] at hb; cases hb; exact hn (hc _ _ _ rfl)
  cases k with
  | none =>
    obtain ⟨t, h, n⟩ := h
    refine ⟨t, h, fun z => ?_⟩
    cases h with
    | tup h => cases z; exact ne h (fun _ _ _ e => by cases e) rfl
    | lst h => cases z; exact ne h (fun _ _ _ e => by cases e) rfl
    | dic h => cases z; exact ne h (fun _ _ _ e => by cases e) rfl
    | _ => cases z
  | some z =>
    obtain ⟨hz, q, dx, x, y, u, hv, n, hq⟩ := h
    exact ⟨hz, q, dx, x, y, u, hv, ne hq (fun _ _ _ e => by cases e; rfl), hq⟩
def Kds (CC a : Addr) (H : Hp) (ks : List (Option Str)) (xs : List V) : Prop := ks.length = xs.length ∧ ∀ (i : Nat) (k : Option Str), ks[i]? = some k → ∃ v, xs[i]? = some v ∧ Kd CC a H k v
theorem Kds.keep {CC a : Addr} {H H' : Hp} (e : Keep a H H') {ks : List (Option Str)} {xs : List V} (h : Kds CC a H ks xs) : Kds CC a H' ks xs :=
  ⟨h.1, fun i k hk => let ⟨v, h1, h2⟩ := h.2 i k hk; ⟨v, h1, h2.keep e⟩⟩
theorem Kds.at {CC a b : Addr} {H : Hp} (hb : H b = none ∨ ∃ C dx fs, H b = some (.ins C dx fs) ∧ C ≠ CC) {ks : List (Option Str)} {xs : List V} (h : Kds CC a H ks xs) : Kds CC b H ks xs :=
  ⟨h.1, fun i k hk => let ⟨v, h1, h2⟩ := h.2 i k hk; ⟨v, h1, h2.at hb⟩⟩
theorem Kds.nil {CC a : Addr} {H : Hp} : Kds CC a H [] [] := ⟨rfl, fun i k h => by simp at h⟩
theorem Kds.snoc {CC a : Addr} {H : Hp} {ks : List (Option Str)} {xs : List V} {k : Option Str} {v : V} (h : Kds CC a H ks xs) (hv : Kd CC a H k v) : Kds CC a H (ks ++ [k]) (xs ++ [v]) := by
  refine ⟨by rw [List.length_append, List.length_append, h.1]; rfl, fun i j hj => ?_⟩
  by_cases hi : i < ks.length
  · rw [List.getElem?_append_left hi] at hj
    rw [List.getElem?_append_left (by rw [← h.1]; exact hi)]
    exact h.2 i j hj
  · rw [List.getElem?_append_right (by omega)] at hj
    rw [List.getElem?_append_right (by rw [← h.1]; omega), ← h.1]
    cases e : i - ks.length with
    | zero =>
      rw [e] at hj
      cases hj
      exact ⟨v, rfl, hv⟩
    | succ n => rw [e] at hj; cases hj
/-! the index that is due -/
def dup (ks : List (Option Str)) (i : Nat) : Bool := match ks[i]? with
  | some (some z) => decide (some z ∈ ks.take i)
  | some none => true
  | none => false
inductive Due (ks : List (Option Str)) : Option Int → Prop where
  | size (h : ¬ (1 ≤ ks.length ∧ ks.length ≤ 3)) : Due ks (some (-1))
  | fine (h : 1 ≤ ks.length ∧ ks.length ≤ 3) (a : ∀ j < ks.length, dup ks j = false) : Due ks none
  | wrong (h : 1 ≤ ks.length ∧ ks.length ≤ 3) {i : Nat} (hi : i < ks.length) (d : dup ks i = true) (a : ∀ j < i, dup ks j = false) : Due ks (some (i : Int))
theorem Due.one {ks : List (Option Str)} {r r' : Option Int} (h : Due ks r) (h' : Due ks r') : r = r' := by
  cases h with
  | size h => cases h' with
    | size _ => rfl
    | fine g _ => exact absurd g h
    | wrong g _ _ _ => exact absurd g h
  | fine h a => cases h' with
    | size g => exact absurd h g
    | fine _ _ => rfl
    | wrong _ hi d _ => rw [a _ hi] at d; cases d
  | @wrong h i hi d a => cases h' with
    | size g => exact absurd h g
    | fine _ b => rw [b _ hi] at d; cases d
    | @wrong _ j hj d' b =>
      have e : i = j := by
        rcases Nat.lt_trichotomy i j with l | l | l
        · rw [b _ l] at d; cases d
        · exact l
        · rw [a _ l] at d'; cases d'
      rw [e]
theorem due_first (ks : List (Option Str)) : ∀ n, n ≤ ks.length → (∀ j < n, dup ks j = false) ∨ ∃ i, i < n ∧ dup ks i = true ∧ ∀ j < i, dup ks j = false
  | 0, _ => .inl fun j h => absurd h (Nat.not_lt_zero j)
  | n + 1, hn => by
    rcases due_first ks n (by omega) with h | ⟨i, h1, h2, h3⟩
    · cases e : dup ks n with
      | true => exact .inr ⟨n, by omega, e, h⟩
      | false =>
        refine .inl fun j hj => ?_
        by_cases hjn : j < n
        · exact h j hjn
        · obtain rfl : j = n := by omega
          exact e
    · exact .inr ⟨i, by omega, h2, h3⟩
theorem due_ex (ks : List (Option Str)) : ∃ r, Due ks r := by
  by_cases h : 1 ≤ ks.length ∧ ks.length ≤ 3
  · rcases due_first ks ks.length (Nat.le_refl _) with a | ⟨i, h1, h2, h3⟩
    · exact ⟨_, .fine h a⟩
    · exact ⟨_, .wrong h h1 h2 h3⟩
  · exact ⟨_, .size h⟩
theorem due_len {ks : List (Option Str)} {r : Option Int} (h : Due ks r) : (r = some (-1) ∧ ¬ (1 ≤ ks.length ∧ ks.length ≤ 3)) ∨ ((1 ≤ ks.length ∧ ks.length ≤ 3)) := by
  cases h with
  | size h => exact .inl ⟨rfl, h⟩
  | fine h _ => exact .inr h
  | wrong h _ _ _ => exact .inr h
def rvI (r : Option Int) : V := match r with
  | none => .non
  | some i => .int i
/-! Table(columns) -/
structure TxtTb (K : PySem.W.Frag) (mg : Str → Option Value) (CC CT : Addr) : Prop where
  cl : Cls K CT
  n1 : NoAttr K CT "columns"
  n2 : NoAttr K CT "names"
  ne : CT ≠ CC
  isi : mg "isinstance" = none
  len : mg "len" = none
  enum : mg "enumerate" = none
  tuple : mg "tuple" = none
  no : ∀ t ∈ plTys, PySem.W.kitOne K (.type t) (.ref CC) = some false
  ha : PySem.W.findIn K (.ref CC) "__class__" = some (some (.builtin "object.__class__"))
  hn : PySem.W.specialIn K (.builtin "object.__class__") "__get__" = some (some (.builtin "getset_descriptor.__get__"))
  ht : PySem.W.takesIn K (.builtin "object.__class__") = some true
  hm : PySem.W.mroIn K CC (.type "object") = some true
def spTabI (K : PySem.W.Frag) (CC CT C : Addr) : Sp := fun vs H Q E => ∃ (p dx b : Addr) (ks : List (Option Str)) (xs : List V) (r : Option Int), vs = [.ref p, .ref b] ∧ H p = some (.ins CT dx []) ∧ H b = some (.lst xs) ∧ Kds CC p H ks xs ∧ xs.length ≤ 1000 ∧ Due ks r ∧
  match r with
  | none => ∀ G, Keep p H G → Q .non G
  | some i => ∀ d G, H d = none → Keep p H G → G d = some (.xd (atF (.int i))) → E (.ref C) (some d) G
end Lw

set_option Elab.async false
set_option linter.all false
set_option maxRecDepth 100000
set_option maxHeartbeats 4000000
namespace Lw
open PySem PySem.Spec PyProof.Rows L2
section
variable {P : Program} {w : World} {K : PySem.W.Frag} {mg : Str → Option Value} {base : Heap} {CC CT C : Addr}
abbrev nTab : List Str := ["self", "columns", "names", "at", "column"]
theorem scTabI : FnScope nTab ["self", "columns"] (defScope sTabI) := ⟨rfl, rfl, rfl, by decide +kernel, rfl, by decide +kernel, by decide +kernel⟩
theorem kit_self {D : Addr} : PySem.W.kitOne K (.ref D) (.ref D) = some true := by
  unfold PySem.W.kitOne
  rw [if_pos (beq_self_eq_true _)]
theorem same_none {H H1 : Hp} {d : Addr} (s : Same H H1) (h : H1 d = none) : H d = none := by
  cases e : H d with
  | none => rfl
  | some o => rw [s _ _ e] at h; cases h
theorem dup_names {ks : List (Option Str)} {i : Nat} (hi : i < ks.length) (a : ∀ j < i, dup ks j = false) : ∃ zs : List Str, ks.take i = zs.map some ∧ zs.length = i := by
  induction i with
  | zero => exact ⟨[], by simp, rfl⟩
  | succ n ih =>
    obtain ⟨zs, h1, h2⟩ := ih (by omega) fun j hj => a j (by omega)
    have d := a n (by omega)
    have e : ks[n]? = some ks[n] := List.getElem?_eq_getElem (by omega)
    unfold dup at d
    rw [e] at d
    cases q : ks[n] with
    | none => rw [q] at d; cases d
    | some z => exact ⟨zs ++ [z], by rw [List.take_add_one, e, h1, q, List.map_append]; rfl, by rw [List.length_append, h2]; rfl⟩
theorem ok_tabI {f : Addr} {fd : FuncData} (F : MethD K "__init__" "Table.__init__" sTabI f fd) (T : TxtC K mg CC CT) (U : TxtTb K mg CC CT) (B : BadT P w K mg base C) : FnOk P w K mg base (L2N.CX P w) 4 f fd ["self", "columns"] (spTabI K CC CT C) := by
  obtain ⟨um, hmost⟩ := T.most
  refine F.ok scTabI (fun vs H Q E h => ?_) (fun cdv A outer s H vs Q E hr h => ?_)
  · obtain ⟨p, dx, b, ks, xs, r, rfl, _⟩ := h
    rfl
  · obtain ⟨p, dx, b, ks, xs, r, rfl, hp, hb0, hk, hl, hd, k⟩ := h
    have nd := scTabI.nd
    refine ⟨_, pss_cons (ps_if (pt_not (pt_chain op_le op_le pe_int (pe_callB call_len_seq (by rfl) U.len PySem.boot_len (pa_cons (pv 1) pa_nil)) (ClX.pe_cval (pe_glob (v := .ref CT) rfl T.gT rfl))))
        (pss_one (ps_badt B rfl hr (L2N.takes_of rfl rfl rfl rfl) (pa_cons (pe_un un_neg pe_int) pa_nil))) pss_nil)
      (pss_cons (ps_set (i := 2) nd rfl (Or.inl rfl) (pe_lst pa_nil))
      (pss_cons (ps_for PassesOwn.leaving rfl (pi_enum rfl U.enum (pa_cons (pv 1) pa_nil)) (pg_tup (by rfl) (pgs_cons (pg_name (i := 3) nd rfl (Or.inl rfl)) (pgs_cons (pg_name (i := 4) nd rfl (Or.inl rfl)) pgs_nil)))
        (pss_cons (ps_if (PW.pt (pw_or (pt_not (pt_val (pe_callB call_isi (by rfl) U.isi (by decide +kernel) (pa_cons (pv 4) (pa_cons (pe_glob (v := .ref CC) rfl T.gC rfl) pa_nil))))) (pw_or1 (pt_cmpR op_in_seq (pe_fld (pv 4) (by rfl)) (pv 2) (by rfl)))))
          (pss_one (ps_badt B rfl hr (L2N.takes_of rfl rfl rfl rfl) (pa_cons (pv 3) pa_nil))) pss_nil)
        (pss_one (ps_expr (pe_bm PySem.F.plainAttrs_list PySem.F.slot_list_append PySem.F.type_list_append mt_append (pv 2) (pa_cons (pe_fld (pv 4) (by rfl)) pa_nil))))))
      (pss_cons (ps_fld (pv 0) (pe_callTy call_tuple_of (by rfl) U.tuple (by decide +kernel) (pa_cons (pv 1) pa_nil)) rfl)
      (pss_one (ps_fld (pv 0) (pe_callTy call_tuple_of (by rfl) U.tuple (by decide +kernel) (pa_cons (pv 2) pa_nil)) rfl))))), ?_⟩
    have hb : SqL K H b xs := SqL.of hb0
    have bp : b ≠ p := fun e => by subst e; rw [hp] at hb0; cases hb0
    have hlen : ks.length = xs.length := hk.1
    refine sq_if1 (fun b' H' => H = H' ∧ (if b' = true then r = some (-1) else 1 ≤ ks.length ∧ ks.length ≤ 3)) (fun Q q => ?_) ?_ ?_
    · refine ⟨_, rfl, b, xs, rfl, .inl hb, _, _, rfl, rfl, _, rfl, ?_⟩
      by_cases h1 : (1 : Int) ≤ xs.length
      · rw [decide_eq_true h1]
        refine ⟨CT, _, _, um, rfl, T.rd, hmost, _, _, rfl, rfl, _, rfl, ?_⟩
        by_cases h2 : (xs.length : Int) ≤ 3
        · rw [decide_eq_true h2]
          exact q _ _ ⟨rfl, show 1 ≤ ks.length ∧ ks.length ≤ 3 by omega⟩
        · rw [decide_eq_false h2]
          refine q _ _ ⟨rfl, ?_⟩
          rcases due_len hd with e | e
          · exact e.1
          · omega
      · rw [decide_eq_false h1]
        refine ⟨_, rfl, q _ _ ⟨rfl, ?_⟩⟩
        rcases due_len hd with e | e
        · exact e.1
        · omega
    · rintro _ ⟨rfl, e⟩
      obtain rfl : r = some (-1) := e
      exact ⟨_, rfl, badt_tail fun d G nd s hG => k d G nd (Keep.of_same s) hG⟩
    rintro _ ⟨rfl, hsz⟩
    refine ⟨(by show 0 ≤ sizeLine; decide), fun nm hnm => ?_⟩
    have nb : nm ≠ b := fun e => by subst e; rw [hnm] at hb0; cases hb0
    have np : nm ≠ p := fun e => by subst e; rw [hnm] at hp; cases hp
    refine ⟨_, rfl, b, xs, rfl, (Keep.seq (a := nm) (Keep.new (Keep.refl H) hnm) (Ne.symm nb) hb), ?_⟩
    refine for_it (walk_enum (xs := xs)) (fun i σ H' => ∃ (v3 v4 : Option V) (zs : List Str), σ = [some (.ref p), some (.ref b), some (.ref nm), v3, v4] ∧ ks.take i = zs.map some ∧ zs.length = i ∧ (∀ j < i, dup ks j = false) ∧ Same H H' ∧ H' nm = some (.lst (zs.map V.str)))
      ⟨_, _, [], rfl, by simp, rfl, fun j h => absurd h (Nat.not_lt_zero j), Lw.Same.new (Same.refl H) hnm, upd_same⟩ ?_ ?_ ?_
    · rintro i σ H' hi ⟨v3, v4, zs, rfl, e1, e2, e3, sH, hz⟩
      exact sH.seq hb
    · rintro i x σ H1 H2 hi ⟨v3, v4, zs, rfl, e1, e2, e3, sH, hz⟩ ⟨t, x0, x1, rfl, nt, rfl, q1, q2⟩
      cases q1
      have hi2 : i < ks.length := by omega
      have s2 : Same H (upd H1 t (.tup [.int (i : Nat), x1])) := Lw.Same.new sH nt
      have hz2 : (upd H1 t (.tup [.int (i : Nat), x1])) nm = some (.lst (zs.map V.str)) := (Lw.Same.new (Same.refl H1) nt) _ _ hz
      refine ⟨t, _, rfl, SqT.of upd_same, rfl, _, _, rfl, _, _, rfl, rfl, ?_⟩
      generalize upd H1 t (.tup [.int (i : Nat), x1]) = H2 at s2 hz2
      obtain ⟨x2, f1, f2⟩ := hk.2 i ks[i] (List.getElem?_eq_getElem hi2)
      obtain rfl : x1 = x2 := by
        have q3 : xs[i]? = some x1 := q2
        rw [q3] at f1
        exact Option.some.inj f1
      have f3 := f2.keep (Keep.of_same s2)
      refine sq_if1 (fun b' H3 => H2 = H3 ∧ b' = dup ks i ∧ (b' = false → ∃ z, ks[i]? = some (some z))) (fun Q q => ?_) ?_ ?_
      · cases hkk : ks[i] with
        | none =>
          rw [hkk] at f3
          obtain ⟨ty, f4, f5⟩ := f3
          have hdp : dup ks i = true := by unfold dup; rw [List.getElem?_eq_getElem hi2, hkk]
          refine ⟨_, rfl, _, _, _, _, false, rfl, .own CC, f4.ty, U.no ty f4.mem, false, rfl, iteT (q _ _ ⟨rfl, hdp.symm, fun e => by cases e⟩)⟩
        | some z =>
          rw [hkk] at f3
          obtain ⟨hw, q', dx', a1, a2, a3, rfl, n', hq'⟩ := f3
          have hdp : dup ks i = decide (z ∈ zs) := by
            unfold dup
            rw [List.getElem?_eq_getElem hi2, hkk, e1]
            show decide (some z ∈ zs.map some) = _
            congr 1
            simp
          refine ⟨_, rfl, _, _, _, _, true, rfl, .own CC, .base (.ins hq' T.cl U.ha U.hn U.ht U.hm), kit_self, true, rfl, iteF ?_⟩
          refine ⟨_, rfl, q', CC, dx', _, .str z, rfl, hq', T.cl, T.n1, colF_name _ _ _ _, _, rfl, nm, _, rfl, .inl (SqL.of hz2), rfl, flat_strs _, ?_⟩
          rw [inV_str]
          refine ⟨_, rfl, q _ _ ⟨rfl, hdp.symm, fun _ => ⟨z, by rw [List.getElem?_eq_getElem hi2, hkk]⟩⟩⟩
      · rintro _ ⟨rfl, e, _⟩
        have hdue : Due ks (some (i : Int)) := .wrong hsz hi2 e.symm e3
        obtain rfl := hd.one hdue
        exact ⟨_, rfl, badt_tail fun d G nd s hG => k d G (same_none s2 nd) (Keep.of_same (s2.trans s)) hG⟩
      · rintro _ ⟨rfl, e, hn⟩
        obtain ⟨z, hz3⟩ := hn rfl
        have hkk : ks[i] = some z := by rw [List.getElem?_eq_getElem hi2] at hz3; exact Option.some.inj hz3
        rw [hkk] at f3
        obtain ⟨hw, q', dx', a1, a2, a3, rfl, n', hq'⟩ := f3
        refine ⟨_, rfl, .inl ⟨rfl, _, SqL.of hz2⟩, _, rfl, q', CC, dx', _, .str z, rfl, hq', T.cl, T.n1, colF_name _ _ _ _, nm, _, _, rfl, rfl, hz2, ?_, ?_⟩
        · rw [List.length_map, e2]
          exact Nat.lt_of_lt_of_le hi (Nat.le_trans hl (by decide))
        refine ⟨_, _, zs ++ [z], rfl, ?_, by rw [List.length_append, e2]; rfl, fun j hj => ?_, ?_, ?_⟩
        · rw [List.take_add_one, hz3, e1, List.map_append]; rfl
        · by_cases hji : j < i
          · exact e3 j hji
          · obtain rfl : j = i := by omega
            exact e.symm
        · intro b' o' h'
          rw [upd_ne (fun z => by subst z; rw [hnm] at h'; cases h')]
          exact s2 _ _ h'
        · rw [upd_same, List.map_append]; rfl
    · rintro σ H' ⟨v3, v4, zs, rfl, e1, e2, e3, sH, hz⟩
      have hdue : Due ks none := .fine hsz (by rw [hlen]; exact e3)
      obtain rfl := hd.one hdue
      have hp' := sH _ _ hp
      have hb' := sH _ _ hb0
      refine ⟨_, rfl, b, xs, rfl, .inl ⟨SqL.of hb', fun l1 n1 => ?_⟩⟩
      have pl1 : l1 ≠ p := fun e => by subst e; rw [hp'] at n1; cases n1
      have nl1 : l1 ≠ nm := fun e => by subst e; rw [hz] at n1; cases n1
      refine ⟨_, rfl, p, CT, dx, _, rfl, by rw [upd_ne pl1.symm]; exact hp', U.cl, U.n1, (by show 0 < 1000; decide), ?_⟩
      refine ⟨_, rfl, nm, _, rfl, .inl ⟨SqL.of (by rw [upd_ne np, upd_ne nl1.symm]; exact hz), fun l2 n2 => ?_⟩⟩
      have pl2 : l2 ≠ p := fun e => by subst e; rw [upd_same] at n2; cases n2
      refine ⟨_, rfl, p, CT, dx, _, rfl, by rw [upd_ne pl2.symm]; exact upd_same, U.cl, U.n2, (by show 1 < 1000; decide), ?_⟩
      refine k _ fun b' o' nb' h' => ?_
      have h1 := sH _ _ h'
      have m1 : b' ≠ l1 := fun e => by subst e; rw [h1] at n1; cases n1
      have h2 : (upd (upd H' l1 (.tup xs)) p (.ins CT dx (putF "columns" (.ref l1) []))) b' = some o' := by rw [upd_ne nb', upd_ne m1]; exact h1
      have m2 : b' ≠ l2 := fun e => by subst e; rw [h2] at n2; cases n2
      rw [upd_ne nb', upd_ne m2]
      exact h2
end
end Lw

set_option Elab.async false
set_option linter.all false
set_option maxRecDepth 100000
set_option maxHeartbeats 4000000
namespace Lw
open PySem PySem.Spec PyProof.Rows L2
/-! what a caller says of an error, when something new stood ahead -/
theorem upN {P : Program} {w : World} : StX.CXUp (L2N.CX P w) := by
  intro fs s H s2 H2 E u s' U kept hos c
  obtain ⟨a, B, H', cls, d, h1, h2, h3, V, h5, h6, h7, h8⟩ := c
  have old : ∀ b o, s.heap.get? b = some o → H b = none → H2 b = none := fun b o q n => U.free b o q n (fun z => by cases z)
  have V2 : UB (frs fs) H H' s.heap B s'.heap :=
    { keep := fun b o q n m => V.keep b o (kept b o q) (old b o q n) m
      slot := fun b o q m => V.slot b o (kept b o q) m
      free := fun b o q n => V.free b o (kept b o q) (old b o q n)
      there := fun b o q m => V.there b o (kept b o q) m
      tups := fun b xs q => V.tups b xs (U.tups b xs q)
      frzs := fun b o xs q => V.frzs b o xs (U.frzs b o xs q)
      tbls := fun b ps q => by
        obtain ⟨m1, q1⟩ := U.tbls b ps q
        obtain ⟨m2, q2⟩ := V.tbls b _ q1
        exact ⟨m1 ++ m2, by rw [q2, Array.append_assoc]⟩ }
  exact ⟨a, B, H', cls, d, h1, h2, h3, V2, h5, h6.trans hos, h7, h8⟩
/-! Table.of(*columns) -/
def spTabOf (CC CT C : Addr) : Sp := fun vs H Q E => ∃ (a : Addr) (ks : List (Option Str)) (rest : List V) (r : Option Int), vs = .ref CT :: rest ∧ Kds CC a H ks rest ∧ rest.length ≤ 1000 ∧ Due ks r ∧
  match r with
  | none => ∀ v G, Same H G → Q v G
  | some i => ∀ d G, H d = none → Same H G → G d = some (.xd (atF (.int i))) → E (.ref C) (some d) G
/-- .. behind the binding: the left over ones in a tuple -/
def spTabOf2 (CC CT C : Addr) : Sp := fun vs H Q E => ∃ (a t : Addr) (ks : List (Option Str)) (xs : List V) (r : Option Int), vs = [.ref CT, .ref t] ∧ H t = some (.tup xs) ∧ Kds CC a H ks xs ∧ xs.length ≤ 1000 ∧ Due ks r ∧
  match r with
  | none => ∀ v G, Same H G → Q v G
  | some i => ∀ d G, H d = none → Same H G → G d = some (.xd (atF (.int i))) → E (.ref C) (some d) G
section
variable {P : Program} {w : World} {K : PySem.W.Frag} {mg : Str → Option Value} {base : Heap} {CC CT C fI g : Addr} {fdI fd : FuncData}
theorem scTabOf : FnScope ["cls", "columns"] ((["cls"] : List Str) ++ (["columns"] : List Str)) (defScope sTabOf) := ⟨rfl, rfl, rfl, by decide +kernel, rfl, by decide +kernel, by decide +kernel⟩
theorem same_ins {H : Hp} {x dx : Addr} {o u : HO} (hx : H x = none) (hd : H dx = none) : Same H (upd (upd H dx o) x u) := fun b z h => by
  rw [upd_ne (ne_of_none h hx), upd_ne (ne_of_none h hd)]
  exact h
theorem keep_ins {H G : Hp} {x dx : Addr} {o u : HO} (hx : H x = none) (hd : H dx = none) (k : Keep x (upd (upd H dx o) x u) G) : Same H G := fun b z h =>
  k b z (ne_of_none h hx) (same_ins hx hd b z h)
/-- C(xs), C is Table: what its own __init__ is asked -/
theorem tab_new {E : XK} {R : Addr → Hp → Prop} {H : Hp} {b a : Addr} {ks : List (Option Str)} {xs : List V} {r : Option Int} (ne : CT ≠ CC) (hb : H b = some (.lst xs)) (hk : Kds CC a H ks xs) (hl : xs.length ≤ 1000) (hd : Due ks r)
    (h : match r with
      | none => ∀ x G, Same H G → R x G
      | some i => ∀ d G, H d = none → Same H G → G d = some (.xd (atF (.int i))) → E (.ref C) (some d) G) :
    ∀ x dx, H x = none → H dx = none → dx ≠ x → spTabI K CC CT C (.ref x :: ([.ref b] ++ [])) (upd (upd H dx (.own x)) x (.ins CT dx [])) (fun v H2 => v = .non ∧ R x H2) E := by
  intro x dx hx hdx n
  have s := same_ins (o := .own x) (u := .ins CT dx []) hx hdx
  refine ⟨x, dx, b, ks, xs, r, rfl, upd_same, s _ _ hb, ?_, hl, hd, ?_⟩
  · exact Kds.at (.inr ⟨CT, dx, [], upd_same, ne⟩) (hk.keep (Keep.of_same s))
  · cases r with
    | none => exact fun G k => ⟨rfl, h _ G (keep_ins hx hdx k)⟩
    | some i => exact fun d G nd k hG => h d G (same_none s nd) (keep_ins hx hdx k) hG
theorem ok_tabOf (F : MethD K "of" "Table.of" sTabOf g fd) (U : TxtTb K mg CC CT) (ml : mg "list" = none) (M : Mk K CT fI) (FI : FnOk P w K mg base (L2N.CX P w) 4 fI fdI ["self", "columns"] (spTabI K CC CT C)) (bI : Binds K fdI ["self", "columns"] []) :
    FnR P w K mg base (L2N.CX P w) 6 g (spTabOf CC CT C) := by
  obtain ⟨oc, od, dV, kV, doc, pm, an, cdv, ct, osl, rfl, lk, hcd, hD, hK⟩ := F.ex
  have hdV : dV = .none := by
    rcases hD with ⟨_, e⟩ | ⟨e, _⟩
    · exact e
    · exact absurd rfl e
  subst hdV
  have Fs := StX.fn_star (CX := L2N.CX P w) (P := P) (w := w) (mg := mg) (base := base) (k := 5) (N := ["cls", "columns"]) (ps := ["cls"]) (pv := "columns") (sp := spTabOf2 CC CT C) lk hcd scTabOf upN
    (StX.bind_star1 (B := fun us => bindArgs (PySem.W.fnOf "of" "Table.of" (defArgs sTabOf) (defBody sTabOf) (defScope sTabOf) .none kV doc pm an cdv ct) ⟨us, []⟩) (p1 := "cls") (pv := "columns") (fun a => rfl) (fun a r rs => rfl)) (fun A outer s H vs Q E hr h => ?_)
  · refine Fs.imp fun vs H Q E h => ?_
    obtain ⟨a, ks, rest, r, rfl, hk, hl, hd, h⟩ := h
    refine ⟨[.ref CT], rest, rfl, rfl, Nat.le_trans hl (by decide), fun p hp => ?_⟩
    have s := Lw.Same.new (o := .tup rest) (Same.refl H) hp
    refine ⟨a, p, ks, rest, r, rfl, upd_same, hk.keep (Keep.of_same s), hl, hd, ?_⟩
    cases r with
    | none => exact fun v G k => h v G (s.trans k)
    | some i => exact fun d G nd k hG => h d G (same_none s nd) (s.trans k) hG
  · obtain ⟨a, t, ks, xs, r, rfl, ht, hk, hl, hd, h⟩ := h
    refine ⟨_, pss_one (ps_ret (pe_makeL (i := 0) M FI hr rfl (Or.inl rfl) bI (L2N.passes_call (E := E) (L2N.takes_of rfl rfl rfl rfl) fun _ _ _ _ z => z)
      (pa_cons (pe_callTy call_list_of (by rfl) ml (by decide +kernel) (pa_cons (pv 1) pa_nil)) pa_nil))), ?_⟩
    refine ⟨rfl, _, rfl, t, xs, rfl, .inr (SqT.of ht), fun l hn => ?_⟩
    have s := Lw.Same.new (o := .lst xs) (Same.refl H) hn
    refine tab_new U.ne upd_same (hk.keep (Keep.of_same s)) hl hd ?_
    cases r with
    | none => exact fun v G k => h (.ref v) G (s.trans k)
    | some i => exact fun d G nd k hG => h d G (same_none s nd) (s.trans k) hG
end
/-! C.m(), a classmethod called with nothing -/
section
variable {X : Cx} {CX : CXT} {k : Nat} {C p g : Addr} {mc : Value} {sp : Sp} {E : XK} {o : Expr} {m : Str} {pos apos : Pos} {ta : TE} {pl : Sem Bool}
theorem pe_cmeth0 (he : PE X o ta) (r : ClX.CRead X.K C mc) (c : ClX.CMet X.K C mc m p g) (F : FnR X.prog X.w X.K X.mg X.base CX k g sp) (hr : Room k X.A) (hx : Passes CX X E)
    (ht : eval (.Call (.Attribute o m apos) [] [] pos) X.env = (do
      let ov ← eval o X.env
      standAt apos.atName
      let (f, first) ← holding [ov] (getMethod ov m pl)
      callWith pos f first (backTo pos (starEach [] X.env)) (backToKw pos (keywordEach [] X.env))) := by rfl) :
    PE X (.Call (.Attribute o m apos) [] [] pos) (fun σ H Q => ta σ H fun x H1 => x = .ref C ∧ sp [.ref C] H1 Q E) := by
  constructor
  intro pins s σ H Q I h
  refine PySem.W.methodCall_KW (pl := pl) (thn (he.run pins s σ H _ I h) fun u s1 hu => ?_) ht
  obtain ⟨x, H1, I1, rx, rfl, q⟩ := hu
  obtain rfl : u = Value.ref C := rx
  refine ClX.getmethcm_ok I1 r c fun s2 I2 => ?_
  exact PySem.W.callWith_M0 ⟨ClX.pin_at I2, I2.kIn⟩ c.fi (ClX.run_cm (us := []) (vs := []) F hr hx I2 .nil q)
end
end Lw

set_option Elab.async false
set_option linter.all false
set_option maxRecDepth 100000
set_option maxHeartbeats 4000000
namespace Lw
open PySem PySem.Spec PyProof.Rows L2
abbrev sInt : Stmt := top 17
abbrev sTold : Stmt := top 20
abbrev sOfTold : Stmt := top 21
abbrev sDue : Stmt := top 22
structure TxtU (K : PySem.W.Frag) (mg : Str → Option Value) (C CB CE : Addr) : Prop where
  isi : mg "isinstance" = none
  int : mg "int" = none
  bool : mg "bool" = none
  len : mg "len" = none
  enum : mg "enumerate" = none
  gC : mg "BadTable" = some (.ref C)
  gB : mg "BadColumn" = some (.ref CB)
  gE : mg "CopiesError" = some (.ref CE)
  exc : ExcC K C
  xf : XfC K C
  noA : PySem.W.findIn K (.ref C) "at" = some none
  exm : PySem.W.exmOne K (.ref C) (.ref C) = some true
  kB : PySem.W.kitOne K (.ref C) (.ref CB) = some false
  kE : PySem.W.kitOne K (.ref C) (.ref CE) = some true
section
variable {P : Program} {w : World} {K : PySem.W.Frag} {mg : Str → Option Value} {base : Heap} {CC CT C CB CE fI g pc : Addr} {fdI : FuncData}
theorem scInt : FnScope ["value"] ["value"] (defScope sInt) := ⟨rfl, rfl, rfl, by decide +kernel, rfl, by decide +kernel, by decide +kernel⟩
theorem ok_intH {f : Addr} {fd : FuncData} (F : FnP K "_law_integer" sInt f fd) (T : TxtU K mg C CB CE) : L2H.FnH P w K mg base CX0 1 f fd ["value"] (spIsInteger K) := by
  refine okH F scInt (fun vs H Q E h => ?_) (fun cdv A outer s H vs Q E p hot hr h => ?_)
  · obtain ⟨v, b, rfl, _⟩ := h
    rfl
  · obtain ⟨v, b, rfl, hv, k⟩ := h
    refine ⟨_, pss_one (ps_ret (pe_and (pe_callB call_isi (by rfl) T.isi (by decide +kernel) (pa_cons (pv 0) (pa_cons (pe_bltn (v := .ty "int") (by rfl) T.int (by decide +kernel) rfl) pa_nil)))
      (pe_one (pe_not (pe_callB call_isi (by rfl) T.isi (by decide +kernel) (pa_cons (pv 0) (pa_cons (pe_bltn (v := .ty "bool") (by rfl) T.bool (by decide +kernel) rfl) pa_nil))))))), ?_⟩
    rcases hv with ⟨rfl, i, rfl⟩ | ⟨rfl, ⟨c, rfl⟩ | ⟨t, ht, kt⟩⟩
    · exact ⟨_, rfl, _, _, _, _, true, rfl, .ty _, ty_int i, kit_ty (by decide +kernel), true, rfl, iteT ⟨_, rfl, _, _, _, _, false, rfl, .ty _, ty_int i, kit_ty (by decide +kernel), false, rfl, k⟩⟩
    · exact ⟨_, rfl, _, _, _, _, true, rfl, .ty _, ty_bl c, kit_ty (by decide +kernel), true, rfl, iteT ⟨_, rfl, _, _, _, _, true, rfl, .ty _, ty_bl c, kit_ty (by decide +kernel), true, rfl, k⟩⟩
    · exact ⟨_, rfl, _, _, _, _, false, rfl, .ty _, ht, kit_ty kt, false, rfl, iteF k⟩
def spTold (CC : Addr) : Sp := fun vs H Q _ => ∃ (b a : Addr) (ks : List (Option Str)) (xs : List V) (r : Option Int), vs = [.ref b] ∧ H b = some (.lst xs) ∧ Kds CC a H ks xs ∧ xs.length ≤ 1000 ∧ Due ks r ∧ ∀ G, Same H G → Q (rvI r) G
theorem scTold : FnScope ["entries", "e"] ["entries"] (defScope sTold) := ⟨rfl, rfl, rfl, by decide +kernel, rfl, by decide +kernel, by decide +kernel⟩
theorem takesN {X : Cx} : L2N.Takes X (fun _ _ _ _ => False) := fun u s' h => by
  obtain ⟨_, _, _, _, _, _, _, _, _, _, _, _, _, _, _, _, z⟩ := h
  exact z.elim
theorem hotS {X : Cx} {a : Addr} {oe : Obj} {cls : Value} {d : Option Addr} {pn : List (Addr × Obj)} (hz : L2N.Zn cls d oe) (hf : ∃ vs, oe.data = .fields vs) : L2H.HotC (X.suite a ((a, oe) :: pn)) := by
  obtain ⟨vs, hv⟩ := hf
  exact ⟨(a, oe), ⟨rfl, vs, hv, hz.2.2 vs hv⟩, List.mem_cons_self⟩
theorem tab_told {W : WX} {D : Ends} {σ : L2.St} {H : Hp} {u : TS} {r : Option Int} {X : Cx} (hl : σ.length = X.N.length) (hn : r = none → ∀ G, Same H G → u D σ G)
    (hx : ∀ i, r = some i → ∀ d G, H d = none → Same H G → G d = some (.xd (atF (.int i))) → ∀ σ' : L2.St, σ'.length = X.N.length → W (.ref C) (some d) σ' G) :
    match r with
      | none => ∀ (v : V) G, Same H G → u D σ G
      | some i => ∀ d G, H d = none → Same H G → G d = some (.xd (atF (.int i))) → WL X W (.ref C) (some d) G := by
  cases r with
  | none => exact fun _ G s => hn rfl G s
  | some i => exact fun d G nd s hG σ' h => hx i rfl d G nd s hG σ' h
theorem ok_told {f fi : Addr} {fd fdi : FuncData} (F : FnP K "_law_told" sTold f fd) (T : TxtU K mg C CB CE) (ne : CT ≠ CC) (gT : mg "Table" = some (.ref CT)) (M : Mk K CT fI) (FI : FnOk P w K mg base (L2N.CX P w) 4 fI fdI ["self", "columns"] (spTabI K CC CT C))
    (bI : Binds K fdI ["self", "columns"] []) (gi : mg "_law_integer" = some (.ref fi)) (ki : PySem.W.keepIn K (.ref fi) = true) (Fi : L2H.FnH P w K mg base CX0 1 fi fdi ["value"] (spIsInteger K)) (bi : Binds K fdi ["value"] []) :
    FnOk P w K mg base CX0 6 f fd ["entries"] (spTold CC) := by
  refine F.ok scTold (fun vs H Q E h => ?_) (fun cdv A outer s0 H vs Q E hr h => ?_)
  · obtain ⟨b, a, ks, xs, r, rfl, _⟩ := h
    rfl
  · obtain ⟨b, a, ks, xs, r, rfl, hb, hk, hl, hd, k⟩ := h
    have hr1 : Room 1 _ := hr.mono (by decide)
    refine ⟨_, PSs.nox (pss_cons (L2N.ps_try_as (i := 1) (tb := fun W => tDrop (tMake CT (spTabI K CC CT C) [] (WL _ W) (tCons (tVar 0) tNil)))
        (ts := fun a cls d => tSeq (tIfS (tOr (tB (tCB (rIsED K cls d a) (tCons (tVar 1) (tCons (tC (.ref CB)) tNil)))) (tOr (tNot (tB (tCB (rIsED K cls d a) (tCons (tVar 1) (tCons (tC (.ref CE)) tNil))))) (tNot (tB (tCallS (spIsInteger K) (fun _ => E0) (tCons (tXf a cls d C "at" (tVar 1)) tNil))))))
          (tRet (tC (.str "wrong"))) tNext) (tRet (tXf a cls d C "at" (tVar 1))))
        (Wout := fun _ _ _ _ => False) rfl rfl scTold.nd rfl rfl ⟨rfl, by decide, Or.inl T.gC⟩ takesN
        (fun W pn xe tk _ => pss_one (ps_expr (pe_make M FI hr rfl gT bI .nil (passL tk) (by exact (pa_cons (pv 0) pa_nil)))))
        (fun a oe cls d pn hz hf => pss_cons (ps_if (PW.pt (pw_or (pt_val (pe_callB (call_isED hz.zc hf) (by rfl) T.isi (by decide +kernel) (pa_cons (pv 1) (pa_cons (pe_glob (v := .ref CB) rfl T.gB rfl) pa_nil))))
            (pw_or (pt_not (pt_val (pe_callB (call_isED hz.zc hf) (by rfl) T.isi (by decide +kernel) (pa_cons (pv 1) (pa_cons (pe_glob (v := .ref CE) rfl T.gE rfl) pa_nil)))))
              (pw_or1 (pt_not (pt_val (L2H.pe_callH Fi ⟨hr1.dp, hr1.un⟩ (hotS hz hf) rfl gi ki bi (fun σ => fun _ _ _ _ _ _ z => z.elim) (pa_cons (pe_xf T.xf T.noA hz.zc hf (pv 1)) pa_nil))))))))
            (pss_one (ps_ret pe_str)) pss_nil) (pss_one (ps_ret (pe_xf T.xf T.noA hz.zc hf (pv 1))))))
      (pss_one (ps_ret pe_non))), ?_⟩
    refine ⟨_, rfl, tab_new ne hb hk hl hd ?_⟩
    cases r with
    | none => exact fun v G s => k G s
    | some i =>
      intro d G nd s hG σ' hσ
      have h1 : ∀ z : Addr, (σ'.set 1 (some (.ref z)))[1]? = some (some (.ref z)) := fun z => List.getElem?_set_self (by rw [hσ]; show 1 < 2; decide)
      refine ⟨true, T.exm, fun _ z _ => ?_, fun e => Bool.noConfusion e⟩
      refine sq_if1 (fun b' H' => G = H' ∧ b' = false) (fun Q' q => ?_) ?_ ?_
      · refine ⟨_, h1 z, C, d, .ref CB, .ref CB, false, _, rfl, rfl, T.exc, rfl, fun u r => r, hG, T.kB, false, rfl, iteF ?_⟩
        refine ⟨_, h1 z, C, d, .ref CE, .ref CE, true, _, rfl, rfl, T.exc, rfl, fun u r => r, hG, T.kE, true, rfl, iteF ?_⟩
        refine ⟨_, h1 z, rfl, rfl, d, _, .int i, rfl, hG, List.lookup_cons_self, _, true, rfl, .inl ⟨rfl, i, rfl⟩, true, rfl, q _ _ ⟨rfl, rfl⟩⟩
      · rintro _ ⟨_, e⟩
        cases e
      · rintro _ ⟨rfl, _⟩
        exact ⟨_, h1 z, rfl, rfl, d, _, .int i, rfl, hG, List.lookup_cons_self, k G s⟩
end
end Lw

set_option Elab.async false
set_option linter.all false
set_option maxRecDepth 100000
set_option maxHeartbeats 4000000
namespace Lw
open PySem PySem.Spec PyProof.Rows L2
def W2 (W : WX) : XK := fun cls d H => ∀ σ : L2.St, σ.length = 2 → W cls d σ H
theorem passW2 {X : Cx} {W : WX} (h : X.N.length = 2) (tk : L2N.Takes X W) : Passes (L2N.CX X.prog X.w) X (W2 W) := by
  have e : W2 W = WL X W := by unfold W2 WL; rw [h]
  rw [e]
  exact passL tk
/-! the length of what slot 0 holds; one of its items; Table.of of some -/
def tLn (K : PySem.W.Frag) : TE := tCB (fun xs H Q => ∃ p ys, xs = [.ref p] ∧ (SqL K H p ys ∨ SqT K H p ys) ∧ Q (.int ys.length) H) (tCons (tVar 0) tNil)
def tEqL (K : PySem.W.Frag) (j : Int) : TT := tTest (tOp rEq (tLn K) (tC (.int j)))
def tIt (K : PySem.W.Frag) (j : Int) : TE := tOp (rIxL K) (tVar 0) (tC (.int j))
def tOf0 (E : XK) (CC CT C : Addr) : TE := fun σ H Q => tC (.ref CT) σ H fun x H1 => x = .ref CT ∧ spTabOf CC CT C [.ref CT] H1 Q E
def tOfs (E : XK) (CC CT C : Addr) (t : TA) : TE := ClX.tCMeth CT (spTabOf CC CT C) E (tC (.ref CT)) t
def tbOf (E : XK) (K : PySem.W.Frag) (CC CT C : Addr) : TS :=
  tIfS (tEqL K 0) (tDrop (tOf0 E CC CT C)) (tIfS (tEqL K 1) (tDrop (tOfs E CC CT C (tCons (tIt K 0) tNil))) (tIfS (tEqL K 2) (tDrop (tOfs E CC CT C (tCons (tIt K 0) (tCons (tIt K 1) tNil))))
    (tIfS (tEqL K 3) (tDrop (tOfs E CC CT C (tCons (tIt K 0) (tCons (tIt K 1) (tCons (tIt K 2) tNil))))) (tDrop (tOfs E CC CT C (tCons (tIt K 0) (tCons (tIt K 1) (tCons (tIt K 2) (tCons (tIt K 3) tNil)))))))))
section
variable {P : Program} {w : World} {K : PySem.W.Frag} {mg : Str → Option Value} {base : Heap} {CC CT C CB CE g pc : Addr}
theorem scOfTold : FnScope ["entries", "e"] ["entries"] (defScope sOfTold) := ⟨rfl, rfl, rfl, by decide +kernel, rfl, by decide +kernel, by decide +kernel⟩
theorem kds_take {a : Addr} {H : Hp} {ks : List (Option Str)} {xs : List V} (h : Kds CC a H ks xs) (n : Nat) : Kds CC a H (ks.take n) (xs.take n) := by
  refine ⟨by rw [List.length_take, List.length_take, h.1], fun i k hk => ?_⟩
  have hi : i < n := by
    have e := List.getElem?_eq_some_iff.mp hk
    obtain ⟨l, _⟩ := e
    rw [List.length_take] at l
    omega
  rw [List.getElem?_take_of_lt hi] at hk ⊢
  exact h.2 i k hk
theorem eq_no {n : Nat} {j : Int} {A B : Prop} (h : (n : Int) ≠ j) (b : B) : if decide (V.int (n : Nat) = V.int j) = true then A else B := by
  rw [if_neg (by rw [decide_eq_true_eq]; exact fun e => h (V.int.inj e))]
  exact b
theorem eq_yes {n : Nat} {j : Int} {A B : Prop} (h : (n : Int) = j) (a : A) : if decide (V.int (n : Nat) = V.int j) = true then A else B := by
  rw [if_pos (by rw [decide_eq_true_eq, h])]
  exact a
theorem ok_ofTold {f : Addr} {fd : FuncData} (F : FnP K "_law_of_told" sOfTold f fd) (T : TxtU K mg C CB CE) (gT : mg "Table" = some (.ref CT)) (rT : ClX.CRead K CT (.type "type")) (cT : ClX.CMet K CT (.type "type") "of" pc g)
    (Fo : FnR P w K mg base (L2N.CX P w) 6 g (spTabOf CC CT C)) : FnOk P w K mg base CX0 7 f fd ["entries"] (spTold CC) := by
  refine F.ok scOfTold (fun vs H Q E h => ?_) (fun cdv A outer s0 H vs Q E hr h => ?_)
  · obtain ⟨b, a, ks, xs, r, rfl, _⟩ := h
    rfl
  · obtain ⟨b, a, ks, xs, r, rfl, hb, hk, hl, hd, k⟩ := h
    refine ⟨_, PSs.nox (pss_cons (L2N.ps_try_as (i := 1) (tb := fun W => tbOf (W2 W) K CC CT C)
        (ts := fun a cls d => tRet (tIf (tB (tCB (rIsED K cls d a) (tCons (tVar 1) (tCons (tC (.ref CE)) tNil)))) (tXf a cls d C "at" (tVar 1)) (tC (.str "wrong"))))
        (Wout := fun _ _ _ _ => False) rfl rfl scOfTold.nd rfl rfl ⟨rfl, by decide, Or.inl T.gC⟩ takesN
        (fun W pn xe tk _ => by
          exact pss_one (ps_if (pt_cmpR op_eq (pe_callB call_len_seq (by rfl) T.len PySem.boot_len (pa_cons (pv 0) pa_nil)) pe_int (nomark _)) (pss_one (ps_expr (pe_cmeth0 (by exact pe_glob (v := .ref CT) rfl gT rfl) rT cT Fo hr (passW2 rfl tk)))) 
            (pss_one (ps_if (pt_cmpR op_eq (pe_callB call_len_seq (by rfl) T.len PySem.boot_len (pa_cons (pv 0) pa_nil)) pe_int (nomark _)) (pss_one (ps_expr (ClX.pe_cmeth (by exact pe_glob (v := .ref CT) rfl gT rfl) rT cT Fo hr (passW2 rfl tk) (pa_cons (pe_ix ix_list (pv 0) pe_int (fun _ _ => rfl)) pa_nil))))
            (pss_one (ps_if (pt_cmpR op_eq (pe_callB call_len_seq (by rfl) T.len PySem.boot_len (pa_cons (pv 0) pa_nil)) pe_int (nomark _)) (pss_one (ps_expr (ClX.pe_cmeth (by exact pe_glob (v := .ref CT) rfl gT rfl) rT cT Fo hr (passW2 rfl tk) (pa_cons (pe_ix ix_list (pv 0) pe_int (fun _ _ => rfl)) (pa_cons (pe_ix ix_list (pv 0) pe_int (fun _ _ => rfl)) pa_nil)))))
            (pss_one (ps_if (pt_cmpR op_eq (pe_callB call_len_seq (by rfl) T.len PySem.boot_len (pa_cons (pv 0) pa_nil)) pe_int (nomark _)) (pss_one (ps_expr (ClX.pe_cmeth (by exact pe_glob (v := .ref CT) rfl gT rfl) rT cT Fo hr (passW2 rfl tk) (pa_cons (pe_ix ix_list (pv 0) pe_int (fun _ _ => rfl)) (pa_cons (pe_ix ix_list (pv 0) pe_int (fun _ _ => rfl)) (pa_cons (pe_ix ix_list (pv 0) pe_int (fun _ _ => rfl)) pa_nil))))))
              (pss_one (ps_expr (ClX.pe_cmeth (by exact pe_glob (v := .ref CT) rfl gT rfl) rT cT Fo hr (passW2 rfl tk) (pa_cons (pe_ix ix_list (pv 0) pe_int (fun _ _ => rfl)) (pa_cons (pe_ix ix_list (pv 0) pe_int (fun _ _ => rfl)) (pa_cons (pe_ix ix_list (pv 0) pe_int (fun _ _ => rfl)) (pa_cons (pe_ix ix_list (pv 0) pe_int (fun _ _ => rfl)) pa_nil)))))))))))))))
        (fun a oe cls d pn hz hf => pss_one (ps_ret (pe_ifExp (pt_val (pe_callB (call_isED hz.zc hf) (by rfl) T.isi (by decide +kernel) (pa_cons (pv 1) (pa_cons (pe_glob (v := .ref CE) rfl T.gE rfl) pa_nil)))) (pe_xf T.xf T.noA hz.zc hf (pv 1)) pe_str))))
      (pss_one (ps_ret pe_non))), ?_⟩
    have fin : ∀ (ks2 : List (Option Str)) (rest : List V), Kds CC a H ks2 rest → rest.length ≤ 1000 → Due ks2 r → ∀ σ : L2.St,
        spTabOf CC CT C (.ref CT :: rest) H (fun _ H' => (tRet (tC .non)) { nx := fun _ H' => Q .non H', rt := Q } σ H')
          (W2 (wAs K (.ref C) 1 (fun a cls d => tRet (tIf (tB (tCB (rIsED K cls d a) (tCons (tVar 1) (tCons (tC (.ref CE)) tNil)))) (tXf a cls d C "at" (tVar 1)) (tC (.str "wrong")))) (fun _ _ _ _ => False)
            { nx := (tRet (tC .non)) { nx := fun _ H' => Q .non H', rt := Q }, rt := Q })) := fun ks2 rest hk2 hl2 hd2 σ => by
      refine ⟨a, ks2, rest, r, rfl, hk2, hl2, hd2, ?_⟩
      cases r with
      | none => exact fun v G s => k G s
      | some i =>
        intro d G nd s hG σ' hσ
        have h1 : ∀ z : Addr, (σ'.set 1 (some (.ref z)))[1]? = some (some (.ref z)) := fun z => List.getElem?_set_self (by rw [hσ]; decide)
        refine ⟨true, T.exm, fun _ z _ => ?_, fun e => Bool.noConfusion e⟩
        refine ⟨_, h1 z, C, d, .ref CE, .ref CE, true, _, rfl, rfl, T.exc, rfl, fun u r => r, hG, T.kE, true, rfl, iteT ⟨_, h1 z, rfl, rfl, d, _, .int i, rfl, hG, List.lookup_cons_self, k G s⟩⟩
    have hS : SqL K H b xs := SqL.of hb
    have ix : ∀ (j : Nat) (v : V), xs[j]? = some v → atI xs (j : Int) = some v := fun j v h => atI_nat h
    match xs, hS, hk, hl, ix with
    | [], hS, hk, hl, ix => exact ⟨_, rfl, b, _, rfl, .inl hS, rfl, _, rfl, eq_yes rfl ⟨rfl, fin ks [] hk hl hd [some (.ref b), none]⟩⟩
    | [x], hS, hk, hl, ix =>
      refine ⟨_, rfl, b, _, rfl, .inl hS, rfl, _, rfl, eq_no (by simp) ⟨_, rfl, b, _, rfl, .inl hS, rfl, _, rfl, eq_yes rfl ⟨rfl, ?_⟩⟩⟩
      exact ⟨_, rfl, b, _, _, _, rfl, rfl, hS, ix 0 x rfl, fin ks [x] hk hl hd [some (.ref b), none]⟩
    | [x, y], hS, hk, hl, ix =>
      refine ⟨_, rfl, b, _, rfl, .inl hS, rfl, _, rfl, eq_no (by simp) ⟨_, rfl, b, _, rfl, .inl hS, rfl, _, rfl, eq_no (by simp) ⟨_, rfl, b, _, rfl, .inl hS, rfl, _, rfl, eq_yes rfl ⟨rfl, ?_⟩⟩⟩⟩
      exact ⟨_, rfl, b, _, _, _, rfl, rfl, hS, ix 0 x rfl, _, rfl, b, _, _, _, rfl, rfl, hS, ix 1 y rfl, fin ks [x, y] hk hl hd [some (.ref b), none]⟩
    | [x, y, z], hS, hk, hl, ix =>
      refine ⟨_, rfl, b, _, rfl, .inl hS, rfl, _, rfl, eq_no (by simp) ⟨_, rfl, b, _, rfl, .inl hS, rfl, _, rfl, eq_no (by simp) ⟨_, rfl, b, _, rfl, .inl hS, rfl, _, rfl, eq_no (by simp) ⟨_, rfl, b, _, rfl, .inl hS, rfl, _, rfl, eq_yes rfl ⟨rfl, ?_⟩⟩⟩⟩⟩
      exact ⟨_, rfl, b, _, _, _, rfl, rfl, hS, ix 0 x rfl, _, rfl, b, _, _, _, rfl, rfl, hS, ix 1 y rfl, _, rfl, b, _, _, _, rfl, rfl, hS, ix 2 z rfl, fin ks [x, y, z] hk hl hd [some (.ref b), none]⟩
    | x :: y :: z :: u :: rest, hS, hk, hl, ix =>
      have ln : ((x :: y :: z :: u :: rest).length : Int) = (rest.length : Int) + 4 := by
        simp only [List.length_cons]
        omega
      refine ⟨_, rfl, b, _, rfl, .inl hS, rfl, _, rfl, eq_no (by omega) ⟨_, rfl, b, _, rfl, .inl hS, rfl, _, rfl, eq_no (by omega) ⟨_, rfl, b, _, rfl, .inl hS, rfl, _, rfl, eq_no (by omega) ⟨_, rfl, b, _, rfl, .inl hS, rfl, _, rfl, eq_no (by omega) ⟨rfl, ?_⟩⟩⟩⟩⟩
      have kl : ks.length = rest.length + 4 := hk.1
      have big : Due ks (some (-1)) := .size (by omega)
      obtain rfl := big.one hd
      refine ⟨_, rfl, b, _, _, _, rfl, rfl, hS, ix 0 x rfl, _, rfl, b, _, _, _, rfl, rfl, hS, ix 1 y rfl, _, rfl, b, _, _, _, rfl, rfl, hS, ix 2 z rfl, _, rfl, b, _, _, _, rfl, rfl, hS, ix 3 u rfl, ?_⟩
      exact fin (ks.take 4) [x, y, z, u] (kds_take hk 4) (by show 4 ≤ 1000; decide) (.size (by rw [List.length_take]; omega)) [some (.ref b), none]
end
end Lw

set_option Elab.async false
set_option linter.all false
set_option maxRecDepth 100000
set_option maxHeartbeats 4000000
namespace Lw
open PySem PySem.Spec PyProof.Rows L2
def kv : Option Str → V
  | none => .non
  | some z => .str z
def spDue : Sp := fun vs H Q _ => ∃ (b : Addr) (ks : List (Option Str)) (r : Option Int), vs = [.ref b] ∧ H b = some (.lst (ks.map kv)) ∧ ks.length ≤ 1000 ∧ Due ks r ∧ ∀ G, Same H G → Q (rvI r) G
theorem flat_kv (ks : List (Option Str)) : (ks.map kv).all flatV = true := by
  rw [List.all_map]
  exact List.all_eq_true.mpr fun k _ => by cases k <;> rfl
theorem inV_kv (z : Str) (ks : List (Option Str)) : inV (.str z) (ks.map kv) = decide (some z ∈ ks) := by
  unfold inV
  rw [List.any_map]
  apply Bool.eq_iff_iff.mpr
  simp only [List.any_eq_true, Function.comp, decide_eq_true_eq]
  constructor
  · rintro ⟨y, hy, e⟩
    cases y with
    | none => cases e
    | some y =>
      have e2 : (y == z) = true := e
      exact (eq_of_beq e2) ▸ hy
  · intro h
    exact ⟨some z, h, beq_self_eq_true z⟩
theorem cut_take (xs : List V) (i : Nat) : cutV xs none (some (i : Int)) = xs.take i := by
  unfold cutV
  have e : HT.sIx xs.length xs.length (some (i : Int)) = min i xs.length := HT.sIx_nat _ _ i
  rw [e]
  show (xs.drop 0).take (min i xs.length - 0) = _
  rw [List.drop_zero, Nat.sub_zero, ← List.take_eq_take_min]
section
variable {P : Program} {w : World} {K : PySem.W.Frag} {mg : Str → Option Value} {base : Heap} {CC CT C CB CE g pc : Addr}
theorem scDue : FnScope ["kinds", "at", "name"] ["kinds"] (defScope sDue) := ⟨rfl, rfl, rfl, by decide +kernel, rfl, by decide +kernel, by decide +kernel⟩
theorem ok_due {f : Addr} {fd : FuncData} (F : FnP K "_law_due" sDue f fd) (T : TxtU K mg C CB CE) : FnOk P w K mg base CX0 1 f fd ["kinds"] spDue := by
  refine F.ok scDue (fun vs H Q E h => ?_) (fun cdv A outer s H vs Q E hr h => ?_)
  · obtain ⟨b, ks, r, rfl, _⟩ := h
    rfl
  · obtain ⟨b, ks, r, rfl, hb, hl, hd, k⟩ := h
    have nd := scDue.nd
    refine ⟨_, PSs.nox (pss_cons (ps_if (pt_not (pt_chain op_le op_le pe_int (pe_callB call_len_seq (by rfl) T.len PySem.boot_len (pa_cons (pv 0) pa_nil)) pe_int)) (pss_one (ps_ret (pe_un un_neg pe_int))) pss_nil)
      (pss_cons (ps_for PassesOwn.never rfl (pi_enum rfl T.enum (pa_cons (pv 0) pa_nil)) (pg_tup (by rfl) (pgs_cons (pg_name (i := 1) nd rfl (Or.inl rfl)) (pgs_cons (pg_name (i := 2) nd rfl (Or.inl rfl)) pgs_nil)))
        (pss_one (ps_if (PW.pt (pw_or (pt_cmpR op_isN (pv 2) pe_non (nomark _)) (pw_or1 (pt_cmpR op_in_seq (pv 2) (pe_slice sl_list (pv 0) po_none (po_some (pv 1))) (by rfl))))) (pss_one (ps_ret (pv 1))) pss_nil)))
      (pss_one (ps_ret pe_non)))), ?_⟩
    have hS : SqL K H b (ks.map kv) := SqL.of hb
    have lm : (ks.map kv).length = ks.length := List.length_map _
    refine sq_if1 (fun b' H' => H = H' ∧ (if b' = true then r = some (-1) else 1 ≤ ks.length ∧ ks.length ≤ 3)) (fun Q q => ?_) ?_ ?_
    · refine ⟨_, rfl, b, _, rfl, .inl hS, _, _, rfl, rfl, _, rfl, ?_⟩
      rw [lm]
      by_cases h1 : (1 : Int) ≤ ks.length
      · rw [decide_eq_true h1]
        refine ⟨_, _, rfl, rfl, _, rfl, ?_⟩
        by_cases h2 : (ks.length : Int) ≤ 3
        · rw [decide_eq_true h2]
          exact q _ _ ⟨rfl, show 1 ≤ ks.length ∧ ks.length ≤ 3 by omega⟩
        · rw [decide_eq_false h2]
          refine q _ _ ⟨rfl, ?_⟩
          rcases due_len hd with e | e
          · exact e.1
          · omega
      · rw [decide_eq_false h1]
        refine ⟨_, rfl, q _ _ ⟨rfl, ?_⟩⟩
        rcases due_len hd with e | e
        · exact e.1
        · omega
    · rintro _ ⟨rfl, e⟩
      obtain rfl : r = some (-1) := e
      exact ⟨_, rfl, k H (Same.refl H)⟩
    rintro _ ⟨rfl, hsz⟩
    refine ⟨_, rfl, b, _, rfl, hS, ?_⟩
    refine for_it (walk_enum (xs := ks.map kv)) (fun i σ H' => ∃ (v1 v2 : Option V), σ = [some (.ref b), v1, v2] ∧ (∀ j < i, dup ks j = false) ∧ Same H H')
      ⟨_, _, rfl, fun j h => absurd h (Nat.not_lt_zero j), Same.refl H⟩ ?_ ?_ ?_
    · rintro i σ H' hi ⟨v1, v2, rfl, e3, sH⟩
      exact sH.seq hS
    · rintro i x σ H1 H2 hi ⟨v1, v2, rfl, e3, sH⟩ ⟨t, x0, x1, rfl, nt, rfl, q1, q2⟩
      cases q1
      rw [lm] at hi
      have s2 : Same H (upd H1 t (.tup [.int (i : Nat), x1])) := Lw.Same.new sH nt
      refine ⟨t, _, rfl, SqT.of upd_same, rfl, _, _, rfl, _, _, rfl, rfl, ?_⟩
      generalize upd H1 t (.tup [.int (i : Nat), x1]) = H2 at s2
      have ex : x1 = kv ks[i] := by
        have q3 : (ks.map kv)[i]? = some x1 := q2
        rw [List.getElem?_map, List.getElem?_eq_getElem hi] at q3
        exact (Option.some.inj q3).symm
      subst ex
      refine s1_if (fun b' H3 => Same H H3 ∧ b' = dup ks i) (fun Q q => ?_) ?_ ?_
      · cases hkk : ks[i] with
        | none =>
          have hdp : dup ks i = true := by unfold dup; rw [List.getElem?_eq_getElem hi, hkk]
          exact ⟨_, rfl, rfl, _, rfl, iteT (q _ _ ⟨s2, hdp.symm⟩)⟩
        | some z =>
          have hdp : dup ks i = decide (some z ∈ ks.take i) := by unfold dup; rw [List.getElem?_eq_getElem hi, hkk]
          refine ⟨_, rfl, rfl, _, rfl, iteF ⟨_, rfl, _, rfl, _, rfl, (i : Int), rfl, b, _, rfl, SqL.of (s2 _ _ hb), fun l hn => ?_⟩⟩
          rw [cut_take, ← List.map_take]
          refine ⟨l, _, rfl, .inl (SqL.of upd_same), rfl, flat_kv _, ?_⟩
          refine ⟨inV (.str z) ((ks.take i).map kv), rfl, ?_⟩
          rw [inV_kv]
          exact q _ _ ⟨Lw.Same.new s2 hn, hdp.symm⟩
      · rintro H3 ⟨s3, e⟩
        have hdue : Due ks (some (i : Int)) := .wrong hsz hi e.symm e3
        obtain rfl := hd.one hdue
        exact ⟨_, rfl, k _ s3⟩
      · rintro H3 ⟨s3, e⟩
        refine ⟨_, _, rfl, fun j hj => ?_, s3⟩
        by_cases hji : j < i
        · exact e3 j hji
        · obtain rfl : j = i := by omega
          exact e.symm
    · rintro σ H' ⟨v1, v2, rfl, e3, sH⟩
      have hdue : Due ks none := .fine hsz (by rw [← lm]; exact e3)
      obtain rfl := hd.one hdue
      exact k _ sH
end
end Lw

set_option Elab.async false
set_option linter.all false
set_option maxRecDepth 100000
set_option maxHeartbeats 4000000
namespace Lw
open PySem PySem.Spec PyProof.Rows L2
def kwsC : List (Str × V) := [("large", .bl false), ("fixed", .bl false), ("empty", .bl false)]
section
variable {P : Program} {w : World} {K : PySem.W.Frag} {mg : Str → Option Value} {base : Heap} {CC : Addr} {f : Addr} {fd : FuncData}
theorem col_b0 (F : ColD K f fd) : ∃ ds, Vals [.bl false, .bl false, .bl false] ds ∧ Binds K fd nCol ds :=
  F.binds0 2 (fun z => by cases z) rfl fun D doc pm an cdv ct us ks h1 h2 => match us, h1, ks, h2 with
    | [_, _], _, [_, _, _], _ => ⟨_, _, _, _, _, _, rfl, rfl, _, _, _, _, _, _, rfl, rfl, _, _, _, _, _, _, rfl, rfl, rfl⟩
theorem col_b3 (F : ColD K f fd) : ∃ mv : List Value, KBn K fd nCol 2 ["large", "fixed", "empty"] (fun us ws => us ++ (ws ++ mv)) (fun vs zs => vs ++ (zs ++ [])) :=
  F.kbinds0 2 ["large", "fixed", "empty"] [] (fun us mv ws => us ++ (ws ++ mv)) (fun z => by cases z) (fun q h => by cases h) (fun a b c => a.append (c.append b)) fun D doc pm an cdv ct us mv ws h1 h2 h3 => match us, h1, mv, h2, ws, h3 with
    | [_, _], _, [], _, [_, _, _], _ => rfl
theorem col_b1 (F : ColD K f fd) : ∃ mv : List Value, KBn K fd nCol 2 ["large"] (fun us ws => us ++ (ws ++ mv)) (fun vs zs => vs ++ (zs ++ [.bl false, .bl false])) :=
  F.kbinds0 2 ["large"] [("fixed", .bl false), ("empty", .bl false)] (fun us mv ws => us ++ (ws ++ mv)) (fun z => by cases z) (fun q h => by simp at h; rcases h with rfl | rfl <;> simp) (fun a b c => a.append (c.append b)) fun D doc pm an cdv ct us mv ws h1 h2 h3 => match us, h1, mv, h2, ws, h3 with
    | [_, _], _, [_, _], _, [_], _ => ⟨_, _, _, _, _, _, rfl, rfl, _, _, _, _, _, _, rfl, rfl, rfl⟩

/-- Column, made in the law -/
structure ColM (P : Program) (w : World) (K : PySem.W.Frag) (mg : Str → Option Value) (base : Heap) (CC fI : Addr) (fd : FuncData) : Prop where
  gC : mg "Column" = some (.ref CC)
  M : Mk K CC fI
  F : FnOk P w K mg base CX0 2 fI fd nCol (spColI CC)
  D : ColD K fI fd
theorem col_new {H : Hp} {R : Addr → Hp → Prop} {E : XK} {z : Str} {a b c : V} (hz : IsWord z) (hne : z ≠ "key") (h : ∀ x dx G, Same H G → H x = none → G x = some (.ins CC dx (colF (.str z) a b c)) → R x G) :
    ∀ x dx, H x = none → H dx = none → dx ≠ x → spColI CC [.ref x, .str z, a, b, c] (upd (upd H dx (.own x)) x (.ins CC dx [])) (fun v H2 => v = .non ∧ R x H2) E := fun x dx hx hd n =>
  ⟨x, dx, z, a, b, c, rfl, hz, hne, upd_same, fun G k hG => ⟨rfl, h x dx G (fun b' o e => k b' o (ne_of_none e hx) (same_ins (o := .own x) (u := .ins CC dx []) hx hd b' o e)) hx hG⟩⟩
end
/-! lists set anew -/
theorem Pl.lset {H : Hp} {b : Addr} {xs ys : List V} (hb : H b = some (.lst xs)) {v : V} {t : String} (h : Pl H v t) : Pl (upd H b (.lst ys)) v t := by
  have keep : ∀ {p : Addr} {o : HO}, H p = some o → (∀ zs, o ≠ .lst zs) → (upd H b (.lst ys)) p = some o := fun {p o} e n => by
    by_cases hpb : p = b
    · subst hpb; rw [hb] at e; cases e; exact absurd rfl (n xs)
    · rw [upd_ne hpb]; exact e
  cases h with
  | non => exact .non
  | str z => exact .str z
  | int i => exact .int i
  | bl c => exact .bl c
  | tup h => exact .tup (keep h fun _ e => by cases e)
  | dic h => exact .dic (keep h fun _ e => by cases e)
  | @lst p zs h =>
    by_cases hpb : p = b
    · subst hpb; exact .lst upd_same
    · exact .lst (by rw [upd_ne hpb]; exact h)
theorem Kds.lset {CC a b : Addr} {H : Hp} {xs0 ys : List V} (hb : H b = some (.lst xs0)) {ks : List (Option Str)} {xs : List V} (h : Kds CC a H ks xs) : Kds CC a (upd H b (.lst ys)) ks xs := by
  refine ⟨h.1, fun i k hk => ?_⟩
  obtain ⟨v, h1, h2⟩ := h.2 i k hk
  refine ⟨v, h1, ?_⟩
  cases k with
  | none =>
    obtain ⟨t, h3, h4⟩ := h2
    exact ⟨t, h3.lset hb, h4⟩
  | some z =>
    obtain ⟨hz, q, dx, x, y, u, hv, n, hq⟩ := h2
    exact ⟨hz, q, dx, x, y, u, hv, n, by rw [upd_ne (fun e => by subst e; rw [hb] at hq; cases hq)]; exact hq⟩
/-- what stood in H0 stands in H, and is not the source at p -/
def Bas (H0 : Hp) (p : Addr) (H : Hp) : Prop := ∀ b o, H0 b = some o → b ≠ p ∧ H b = some o
theorem Bas.keep {H0 H H' : Hp} {p : Addr} (h : Bas H0 p H) (k : Keep p H H') : Bas H0 p H' := fun b o e => ⟨(h b o e).1, k b o (h b o e).1 (h b o e).2⟩
theorem Bas.out {H0 H : Hp} {p : Addr} (h : Bas H0 p H) : Same H0 H := fun b o e => (h b o e).2
theorem Bas.set {H0 H : Hp} {p b : Addr} {o : HO} (h : Bas H0 p H) (n : H0 b = none) : Bas H0 p (upd H b o) := fun c u e => ⟨(h c u e).1, by rw [upd_ne (ne_of_none e n)]; exact (h c u e).2⟩
theorem Src.set {H : Hp} {a b : Addr} {n : Nat} {o : HO} (h : Src H a n) (ne : b ≠ a) : Src (upd H b o) a n := by
  obtain ⟨d, s, t, e, r⟩ := h
  exact ⟨d, s, t, by rw [upd_ne ne.symm]; exact e, r⟩
/-! kinds as data -/
def kvD : Option Str → PyData
  | none => .none
  | some z => .str z
theorem dp_kv {K : PySem.W.Frag} {H : Hp} : ∀ ks : List (Option Str), DpAll K H (ks.map kv) (ks.map kvD)
  | [] => .nil
  | none :: r => .cons .non (dp_kv r)
  | some z :: r => .cons (.str z) (dp_kv r)
theorem word_strOk {z : Str} (h : IsWord z) : PyData.canLay0 (.str z) = true := by
  show z.cps.all (· < 0x110000) = true
  rw [← Array.all_toList, List.all_eq_true]
  intro c hc
  have := h.2.2 c hc
  exact decide_eq_true (by omega)
theorem kvs_ok : ∀ ks : List (Option Str), (∀ z, some z ∈ ks → IsWord z) → PyData.canLayAll0 (ks.map kvD) = true ∧ PyData.depthAll (ks.map kvD) = 0
  | [], _ => ⟨rfl, rfl⟩
  | k :: r, h => by
    have ih := kvs_ok r fun z hz => h z (List.mem_cons_of_mem _ hz)
    cases k with
    | none =>
      refine ⟨?_, ?_⟩
      · show (PyData.canLay0 .none && PyData.canLayAll0 (r.map kvD)) = true
        rw [ih.1]; rfl
      · show max (PyData.depth .none) (PyData.depthAll (r.map kvD)) = 0
        rw [ih.2]; rfl
    | some z =>
      refine ⟨?_, ?_⟩
      · show (PyData.canLay0 (.str z) && PyData.canLayAll0 (r.map kvD)) = true
        rw [ih.1, Bool.and_true]
        exact word_strOk (h z List.mem_cons_self)
      · show max (PyData.depth (.str z)) (PyData.depthAll (r.map kvD)) = 0
        rw [ih.2]; rfl
theorem shaped_kv (ks : List (Option Str)) (h : ∀ z, some z ∈ ks → IsWord z) : SeqAt.shaped (.list (ks.map kvD)) = true := by
  obtain ⟨h1, h2⟩ := kvs_ok ks h
  have e1 : PyData.canLay0 (.list (ks.map kvD)) = true := h1
  have e2 : PyData.depth (.list (ks.map kvD)) = 1 := by
    show PyData.depthAll (ks.map kvD) + 1 = 1
    rw [h2]
  unfold SeqAt.shaped
  rw [e1, e2]
  rfl
theorem eqv_kv (ks : List (Option Str)) : PyData.eqv (.list (ks.map kvD)) (.list []) = decide (ks = []) := by
  cases ks with
  | nil => rfl
  | cons k r => cases k <;> rfl
/-! what is due of the last lists -/
theorem due_0 : Due [] (some (-1)) := .size (by simp)
theorem dup_0 (a : Str) (r : List (Option Str)) : dup (some a :: r) 0 = false := by simp [dup]
theorem due_1 (a : Str) : Due [some a] none := .fine (by simp) fun j hj => by
  obtain rfl : j = 0 := by simpa using hj
  exact dup_0 a []
theorem due_2 (a : Str) : Due [some a, some a] (some ((1 : Nat) : Int)) := .wrong (by simp) (by simp) (by simp [dup]) fun j hj => by
  obtain rfl : j = 0 := by omega
  exact dup_0 a _
theorem due_2n {a b : Str} (h : a ≠ b) : Due [some a, some b] none := .fine (by simp) fun j hj => by
  have : j = 0 ∨ j = 1 := by simp at hj; omega
  rcases this with rfl | rfl
  · exact dup_0 a _
  · simp [dup, h.symm]
theorem due_3 (r : List (Option Str)) (h : r.length ≤ 2) : Due (none :: r) (some ((0 : Nat) : Int)) := .wrong (by simp; omega) (by simp) (by simp [dup]) fun j hj => absurd hj (Nat.not_lt_zero j)
theorem due_4 (ks : List (Option Str)) (h : ks.length = 4) : Due ks (some (-1)) := .size (by omega)
theorem ite_same {x : V} {A B : Prop} (b : B) : if (!decide (x = x)) = true then A else B := by
  rw [decide_eq_true rfl]
  exact b
theorem sc_rv (r : Option Int) : scal (rvI r) (rvI r) = true := by cases r <;> rfl
end Lw

set_option Elab.async false
set_option linter.all false
set_option maxRecDepth 100000
set_option maxHeartbeats 4000000
namespace Lw
open PySem PySem.Spec PyProof.Rows L2
abbrev sLaw : Stmt := top 23
abbrev nLaw : List Str := ["script", "place", "source", "kinds", "entries", "turn", "name", "kind", "flags", "first", "second", "one", "two", "alike"]
theorem g_name {i : Nat} {v : V} {σ : L2.St} {H : Hp} {Q : L2.St → Hp → Prop} (h : Q (σ.set i (some v)) H) : gName i v σ H Q := h
/-- x, y, z = ..: a tuple is made and taken apart -/
theorem sq_asg3 {te : TE} {u : TS} {D : Ends} {σ : L2.St} {H : Hp} {i j l : Nat} {K : PySem.W.Frag} (P : V → V → V → Hp → Prop) (h : ∀ Q : VK, (∀ t x y z H', H' t = some (.tup [x, y, z]) → P x y z H' → Q (.ref t) H') → te σ H Q)
    (k : ∀ x y z H', P x y z H' → u D (((σ.set i (some x)).set j (some y)).set l (some z)) H') : tSeq (tAsg te (gTup K 3 (gCons (gName i) (gCons (gName j) (gCons (gName l) gNil))))) u D σ H :=
  h _ fun t x y z H' ht p => ⟨t, _, rfl, SqT.of ht, rfl, x, _, rfl, y, _, rfl, z, _, rfl, rfl, k x y z H' p⟩
theorem sq_par3 {ta : TA} {u : TS} {D : Ends} {σ : L2.St} {H : Hp} {i j l : Nat} (P : V → V → V → Hp → Prop) (h : ∀ Q : List V → Hp → Prop, (∀ x y z H', P x y z H' → Q [x, y, z] H') → ta σ H Q) (k : ∀ x y z H', P x y z H' → u D (((σ.set i (some x)).set j (some y)).set l (some z)) H') : tSeq (tPar3 i j l ta) u D σ H :=
  h _ fun x y z H' p => ⟨x, y, z, rfl, k x y z H' p⟩
theorem set_back {σ : L2.St} {i : Nat} {v : V} (h : σ[i]? = some (some v)) : σ.set i (some v) = σ := by
  obtain ⟨hi, he⟩ := List.getElem?_eq_some_iff.mp h
  rw [← he]
  exact List.set_getElem_self hi
/-- if c: x = e; then the rest, for both -/
theorem sq_ifset {te : TE} {c : TT} {u : TS} {D : Ends} {σ : L2.St} {H : Hp} {i : Nat} (v0 : V) (hσ : σ[i]? = some (some v0)) (P : Bool → Hp → Prop) (P2 : V → Hp → Prop) (h : ∀ Q : Bool → Hp → Prop, (∀ b H', P b H' → Q b H') → c σ H Q)
    (kt : ∀ H', P true H' → ∀ Q : VK, (∀ x G, P2 x G → Q x G) → te σ H' Q) (kf : ∀ H', P false H' → P2 v0 H') (k : ∀ x G, P2 x G → u D (σ.set i (some x)) G) : tSeq (tIfS c (tAsg te (gName i)) tNext) u D σ H :=
  sq_if P h (fun H' p => s1_set P2 (kt H' p) k) (fun H' p => by
    have z := k v0 H' (kf H' p)
    rw [set_back hσ] at z
    exact z)
theorem str_ite {a b : Str} {A B : Prop} (h1 : a = b → A) (h2 : a ≠ b → B) : if decide (V.str a = V.str b) = true then A else B := by
  by_cases e : a = b
  · rw [if_pos (by rw [decide_eq_true_eq, e])]; exact h1 e
  · rw [if_neg (by rw [decide_eq_true_eq]; exact fun z => e (V.str.inj z))]; exact h2 e
theorem due_12 (a b : Str) : ∃ r, Due [some a, some b] r ∧ (a = b → r = some 1) ∧ (a ≠ b → r = none) := by
  by_cases e : a = b
  · subst e; exact ⟨_, due_2 a, fun _ => rfl, fun h => absurd rfl h⟩
  · exact ⟨_, due_2n e, fun h => absurd h e, fun _ => rfl⟩
def Inn (CC : Addr) (H : Hp) (a p kd en : Addr) (pl : V) (t : Nat) (σ : L2.St) (G : Hp) : Prop := ∃ (v5 v6 v7 v8 v9 v10 v11 v12 v13 : Option V) (ks : List (Option Str)) (xs : List V),
  σ = [some (.ref a), some pl, some (.ref p), some (.ref kd), some (.ref en), v5, v6, v7, v8, v9, v10, v11, v12, v13] ∧ G kd = some (.lst (ks.map kv)) ∧ G en = some (.lst xs) ∧ Kds CC p G ks xs ∧ ks.length = t ∧ (∀ z, some z ∈ ks → IsWord z ∧ z ≠ "key") ∧ Bas H p G ∧ Src G p (1 + 20 * t)
def spLaw (K : PySem.W.Frag) : Sp := fun vs H Q _ => ∃ (a : Addr) (ns : List Int), vs = [.ref a] ∧ SqL K H a (ns.map V.int) ∧ ns.length ≤ 63 ∧ ∀ H', Q (.bl true) H'
structure Cals (P : Program) (w : World) (K : PySem.W.Frag) (mg : Str → Option Value) (base : Heap) (CC : Addr) : Prop where
  src : Cal P w K mg base CX0 "_law_source" 1 ["script", "place"] (spSource K)
  draw : Cal P w K mg base CX0 "_law_draw" 1 ["source", "many"] spDraw
  of : Cal P w K mg base CX0 "_law_of" 2 ["source", "some"] (spOf K)
  word : Cal P w K mg base CX0 "_law_word" 2 ["source", "taken"] (spWord K)
  odd : Cal P w K mg base CX0 "_law_odd" 3 ["source"] spOdd
  told : Cal P w K mg base CX0 "_law_told" 6 ["entries"] (spTold CC)
  ofTold : Cal P w K mg base CX0 "_law_of_told" 7 ["entries"] (spTold CC)
  due : Cal P w K mg base CX0 "_law_due" 1 ["kinds"] spDue
  range : mg "range" = none
  max : mg "max" = none
  min : mg "min" = none
  len : mg "len" = none
  list : mg "list" = none
section
variable {P : Program} {w : World} {K : PySem.W.Frag} {mg : Str → Option Value} {base : Heap} {CC fI : Addr} {fdI : FuncData}
theorem scLaw : FnScope nLaw ["script"] (defScope sLaw) := ⟨rfl, rfl, rfl, by decide +kernel, rfl, by decide +kernel, by decide +kernel⟩
theorem ok_law {f : Addr} {fd : FuncData} (F : FnP K "law" sLaw f fd) (c : Cals P w K mg base CC) (M : ColM P w K mg base CC fI fdI) : FnOk P w K mg base CX0 8 f fd ["script"] (spLaw K) := by
  obtain ⟨ds, vd, b0⟩ := col_b0 M.D
  obtain ⟨m3, b3⟩ := col_b3 M.D
  obtain ⟨m1, b1⟩ := col_b1 M.D
  refine F.ok scLaw (fun vs H Q E h => ?_) (fun cdv A outer s0 H vs Q E hr h => ?_)
  · obtain ⟨a, ns, rfl, _⟩ := h
    rfl
  · obtain ⟨a, ns, rfl, hS, hlen, k⟩ := h
    have nd := scLaw.nd
    have h1 : Room 1 _ := hr.mono (by decide)
    have h2 : Room 2 _ := hr.mono (by decide)
    have h3 : Room 3 _ := hr.mono (by decide)
    have h6 : Room 6 _ := hr.mono (by decide)
    have hu := hu_of hr
    refine ⟨_, PSs.nox (pss_cons (ps_for PassesOwn.never rfl (pi_range1 rfl c.range (pa_cons (pe_callB (call_max2 rfl) (by rfl) c.max (by decide +kernel) (pa_cons pe_int (pa_cons (pe_callB (call_min2 rfl) (by rfl) c.min (by decide +kernel) (pa_cons pe_int (pa_cons (pe_callB call_len_seq (by rfl) c.len PySem.boot_len (pa_cons (pv 0) pa_nil)) pa_nil))) pa_nil))) pa_nil))
        (pg_name (i := 1) nd rfl (Or.inl rfl))
        (pss_cons (ps_set (i := 2) nd rfl (Or.inl rfl) (pe_cal c.src h1 (pa_cons (pv 0) (pa_cons (pv 1) pa_nil))))
        (pss_cons (ps_par (i := 3) (j := 4) (by rfl) nd rfl rfl (by decide) rfl rfl (pa_cons (pe_lst pa_nil) (pa_cons (pe_lst pa_nil) pa_nil)) (by rfl))
        (pss_cons (ps_for PassesOwn.never rfl (pi_range1 rfl c.range (pa_cons (pe_cal c.of h2 (pa_cons (pv 2) (pa_cons (pe_lst (pa_cons pe_int (pa_cons pe_int (pa_cons pe_int (pa_cons pe_int (pa_cons pe_int (pa_cons pe_int (pa_cons pe_int (pa_cons pe_int (pa_cons pe_int pa_nil)))))))))) pa_nil))) pa_nil)) (pg_name (i := 5) nd rfl (Or.inl rfl))
          (pss_cons (ps_set (i := 6) nd rfl (Or.inl rfl) (pe_cal c.word h2 (pa_cons (pv 2) (pa_cons (pe_lst (pa_cons pe_str pa_nil)) pa_nil))))
          (pss_cons (ps_set (i := 7) nd rfl (Or.inl rfl) (pe_cal c.draw h1 (pa_cons (pv 2) (pa_cons pe_int pa_nil))))
          (pss_cons (ps_if (PW.pt (pw_and (pt_cmpR op_eq (pv 7) pe_int (nomark _)) (pw_and1 (pt_cmpR (op_neD hr.units) (pv 3) (pe_lst pa_nil) (nomark _))))) (pss_one (ps_set (i := 6) nd rfl (Or.inl rfl) (pe_cal c.of h2 (pa_cons (pv 2) (pa_cons (pv 3) pa_nil))))) pss_nil)
          (pss_one (ps_if (PW.pt (pw_or (pt_cmpR op_eq (pv 7) pe_int (nomark _)) (pw_or1 (pt_cmpR op_isN (pv 6) pe_non (nomark _)))))
            (pss_cons (ps_expr (pe_bm PySem.F.plainAttrs_list PySem.F.slot_list_append PySem.F.type_list_append mt_append (pv 3) (pa_cons pe_non pa_nil)))
            (pss_one (ps_expr (pe_bm PySem.F.plainAttrs_list PySem.F.slot_list_append PySem.F.type_list_append mt_append (pv 4) (pa_cons (pe_cal c.of h2 (pa_cons (pv 2) (pa_cons (pe_lst (pa_cons (pe_cal c.odd h3 (pa_cons (pv 2) pa_nil)) (pa_cons pe_str pa_nil))) pa_nil))) pa_nil)))))
            (pss_cons (ps_set (i := 8) nd rfl (Or.inl rfl) (pe_cal c.draw h1 (pa_cons (pv 2) (pa_cons pe_int pa_nil))))
            (pss_cons (ps_expr (pe_bm PySem.F.plainAttrs_list PySem.F.slot_list_append PySem.F.type_list_append mt_append (pv 3) (pa_cons (pv 6) pa_nil)))
            (pss_one (ps_expr (pe_bm PySem.F.plainAttrs_list PySem.F.slot_list_append PySem.F.type_list_append mt_append (pv 4) (pa_cons (pe_makeK M.M M.F h3 (by rfl) M.gC b3 pass0 (pa_cons (pv 6) pa_nil)
              (pk_cons (pe_cmpR op_eq (pe_op op_modN (pv 8) pe_int) pe_int (nomark _)) (pk_cons (pe_cmpR op_eq (pe_op op_modN (pe_op op_fdivN (pv 8) pe_int) pe_int) pe_int (nomark _)) (pk_cons (pe_cmpR op_gt (pv 8) pe_int (nomark _)) pk_nil)))) pa_nil))))))))))))
        (pss_cons (ps_if (PW.pt (pw_or (pt_cmpR op_ne (pe_cal c.told h6 (pa_cons (pe_callTy call_list_of (by rfl) c.list (by decide +kernel) (pa_cons (pv 4) pa_nil)) pa_nil)) (pe_cal c.due h1 (pa_cons (pv 3) pa_nil)) (nomark _))
            (pw_or1 (pt_cmpR op_ne (pe_callB call_len_seq (by rfl) c.len PySem.boot_len (pa_cons (pv 4) pa_nil)) (pe_callB call_len_seq (by rfl) c.len PySem.boot_len (pa_cons (pv 3) pa_nil)) (nomark _))))) (pss_one (ps_ret pe_bl)) pss_nil)
        (pss_cons (ps_if (pt_cmpR op_ne (pe_cal c.ofTold hr (pa_cons (pe_callTy call_list_of (by rfl) c.list (by decide +kernel) (pa_cons (pv 4) pa_nil)) pa_nil)) (pe_cal c.due h1 (pa_cons (pv 3) pa_nil)) (nomark _)) (pss_one (ps_ret pe_bl)) pss_nil)
        (pss_cons (ps_par (i := 9) (j := 10) (by rfl) nd rfl rfl (by decide) rfl rfl (pa_cons (pe_cal c.word h2 (pa_cons (pv 2) (pa_cons (pe_lst (pa_cons pe_str pa_nil)) pa_nil))) (pa_cons (pe_cal c.word h2 (pa_cons (pv 2) (pa_cons (pe_lst (pa_cons pe_str pa_nil)) pa_nil))) pa_nil)) (by rfl))
        (pss_cons (ps_par3 (i := 11) (j := 12) (l := 13) (by rfl) nd rfl rfl rfl (by decide) (by decide) (by decide) rfl rfl rfl (pa_cons (pe_make M.M M.F h3 (by rfl) M.gC b0 vd pass0 (pa_cons (pv 9) pa_nil)) (pa_cons (pe_make M.M M.F h3 (by rfl) M.gC b0 vd pass0 (pa_cons (pv 10) pa_nil)) (pa_cons (pe_makeK M.M M.F h3 (by rfl) M.gC b1 pass0 (pa_cons (pv 9) pa_nil) (pk_cons pe_bl pk_nil)) pa_nil))) (by rfl))
        (pss_cons (ps_if (PW.pt (pw_or (pt_cmpR op_notN (pe_cal c.told h6 (pa_cons (pe_lst (pa_cons (pv 11) pa_nil)) pa_nil)) pe_non (nomark _)) (pw_or (pt_cmpR op_ne (pe_cal c.told h6 (pa_cons (pe_lst pa_nil) pa_nil)) (pe_un un_neg pe_int) (nomark _))
            (pw_or1 (pt_cmpR op_ne (pe_cal c.told h6 (pa_cons (pe_lst (pa_cons (pv 11) (pa_cons (pv 13) pa_nil))) pa_nil)) pe_int (nomark _)))))) (pss_one (ps_ret pe_bl)) pss_nil)
        (pss_cons (ps_if (PW.pt (pw_or (pt_cmpR op_ne (pe_cal c.told h6 (pa_cons (pe_lst (pa_cons (pv 11) (pa_cons (pv 12) pa_nil))) pa_nil)) (pe_ifExp (pt_cmpR op_eq (pv 9) (pv 10) (nomark _)) pe_int pe_non) (nomark _))
            (pw_or1 (pt_cmpR op_ne (pe_cal c.told h6 (pa_cons (pe_lst (pa_cons pe_non (pa_cons (pv 11) (pa_cons (pv 13) pa_nil)))) pa_nil)) pe_int (nomark _))))) (pss_one (ps_ret pe_bl)) pss_nil)
        (pss_one (ps_if (PW.pt (pw_or (pt_cmpR op_ne (pe_cal c.told h6 (pa_cons (pe_lst (pa_cons pe_non (pa_cons (pv 11) (pa_cons (pv 12) (pa_cons (pv 13) pa_nil))))) pa_nil)) (pe_un un_neg pe_int) (nomark _))
            (pw_or1 (pt_cmpR op_ne (pe_cal c.ofTold hr (pa_cons (pe_lst (pa_cons pe_non (pa_cons (pv 11) (pa_cons (pv 12) (pa_cons (pv 13) pa_nil))))) pa_nil)) (pe_un un_neg pe_int) (nomark _))))) (pss_one (ps_ret pe_bl)) pss_nil))))))))))))
      (pss_one (ps_ret pe_bl))), ?_⟩
    have hb : ∀ L : Int, 0 ≤ L → 1 ≤ (if (if L < 40 then L else 40) > 1 then (if L < 40 then L else 40) else 1) ∧ (if (if L < 40 then L else 40) > 1 then (if L < 40 then L else 40) else 1) ≤ 40 := fun L h => by split <;> split <;> omega
    have hb2 := hb (((ns.map V.int).length : Nat) : Int) (by omega)
    refine ⟨_, rfl, a, _, rfl, .inl hS, _, _, rfl, _, _, rfl, _, rfl, by omega, by omega, ?_⟩
    refine for_range (lo := 0) (fun j σ H' => ∃ v1 v2 v3 v4 v5 v6 v7 v8 v9 v10 v11 v12 v13 : Option V, σ = [some (.ref a), v1, v2, v3, v4, v5, v6, v7, v8, v9, v10, v11, v12, v13] ∧ Same H H') ⟨_, _, _, _, _, _, _, _, _, _, _, _, _, rfl, Same.refl H⟩ ?_ ?_
    · rintro j σ H' hj ⟨v1, v2, v3, v4, v5, v6, v7, v8, v9, v10, v11, v12, v13, rfl, sH⟩
      have hj2 : (j : Int) < 40 := by omega
      refine g_name ?_
      refine sq_set (fun x H1 => ∃ p, x = .ref p ∧ Bas H p H1 ∧ Src H1 p 0) (fun Q q => ?_) ?_
      · refine ⟨_, rfl, _, rfl, a, ns, _, rfl, sH.seq hS, by omega, by omega, by omega, fun p H1 np s1 hs => q _ _ ⟨p, rfl, fun b o e => ⟨ne_of_none (sH b o e) np, s1 b o (sH b o e)⟩, hs⟩⟩
      rintro _ H1 ⟨p, rfl, B1, S1⟩
      refine sq_par (fun x y H2 => ∃ kd en : Addr, x = .ref kd ∧ y = .ref en ∧ kd ≠ p ∧ en ≠ p ∧ kd ≠ en ∧ H kd = none ∧ H en = none ∧ H2 kd = some (.lst []) ∧ H2 en = some (.lst []) ∧ Bas H p H2 ∧ Src H2 p 0) (fun Q q => ?_) ?_
      · refine ⟨(by show 0 ≤ sizeLine; decide), fun kd nkd => ⟨(by show 0 ≤ sizeLine; decide), fun en nen => ?_⟩⟩
        have ne : kd ≠ en := fun e => by subst e; rw [upd_same] at nen; cases nen
        have nen1 : H1 en = none := by rw [upd_ne ne.symm] at nen; exact nen
        have z1 := B1.keep ((Keep.refl H1).new (o := .lst []) nkd)
        have S2 := S1.new (o := .lst []) nkd
        exact q _ _ _ ⟨kd, en, rfl, rfl, S1.ne nkd, S1.ne nen1, ne, same_none B1.out nkd, same_none B1.out nen1, by rw [upd_ne ne]; exact upd_same, upd_same, z1.keep ((Keep.refl _).new nen), S2.new nen⟩
      rintro _ _ H2 ⟨kd, en, rfl, rfl, kdp, enp, kde, Hkd, Hen, hkd, hen, B2, S2⟩
      refine ⟨_, rfl, (by show 9 ≤ sizeLine; decide), fun L nL => ⟨p, L, 0, _, rfl, S2.new nL, by omega, S2.ne nL, SqL.of upd_same, (fun z => by cases z), (by show 9 ≤ 100000; decide), fun H3 x k3 s3 hx => ?_⟩⟩
      have hx2 : ∃ n : Nat, x = .int (n : Int) ∧ n ≤ 5 := by
        simp only [List.mem_cons, List.not_mem_nil, or_false] at hx
        rcases hx with rfl | rfl | rfl | rfl | rfl | rfl | rfl | rfl | rfl
        · exact ⟨0, rfl, by omega⟩
        · exact ⟨1, rfl, by omega⟩
        · exact ⟨2, rfl, by omega⟩
        · exact ⟨2, rfl, by omega⟩
        · exact ⟨3, rfl, by omega⟩
        · exact ⟨3, rfl, by omega⟩
        · exact ⟨3, rfl, by omega⟩
        · exact ⟨4, rfl, by omega⟩
        · exact ⟨5, rfl, by omega⟩
      obtain ⟨n, rfl, hn⟩ := hx2
      have k23 : Keep p H2 H3 := ((Keep.refl H2).new nL).trans k3
      refine ⟨_, rfl, by omega, by omega, ?_⟩
      refine for_range (lo := 0) (Inn CC H a p kd en (.int (0 + (j : Int)))) ⟨_, _, _, _, _, _, _, _, _, [], [], rfl, k23 _ _ kdp hkd, k23 _ _ enp hen, Kds.nil, rfl, (fun z hz => by cases hz), B2.keep k23, s3⟩ ?_ ?_
      · rintro t σ G ht ⟨v5, v6, v7, v8, v9, v10, v11, v12, v13, ks, xs, rfl, gk, ge, hK, hl, hw, BG, SG⟩
        have ht2 : t < 5 := by omega
        refine g_name ?_
        refine sq_set (fun x G1 => ∃ z, x = .str z ∧ IsWord z ∧ z ≠ "key" ∧ Keep p G G1 ∧ Src G1 p (11 + 20 * t)) (fun Q q => ?_) ?_
        · exact ⟨_, rfl, (by show 1 ≤ sizeLine; decide), fun L nL => ⟨p, L, _, ["key"], rfl, SG.new nL, by omega, SG.ne nL, SqL.of upd_same, by decide, fun G1 z k1 s1 hz hnz => q _ _ ⟨z, rfl, hz, fun e => hnz (by rw [e]; exact List.mem_singleton.mpr rfl), ((Keep.refl G).new nL).trans k1, s1.mono (by omega)⟩⟩⟩
        rintro _ G1 ⟨z, rfl, hz, hzk, k1, S1'⟩
        refine sq_set (fun x G2 => ∃ i : Int, x = .int i ∧ Keep p G1 G2 ∧ Src G2 p (12 + 20 * t)) (fun Q q => ?_) ?_
        · exact ⟨_, rfl, p, _, _, rfl, S1', by omega, by decide, by decide, fun G2 i k2 s2 z0 z1 => q _ _ ⟨i, rfl, k2, s2.mono (by omega)⟩⟩
        rintro _ G2 ⟨kind, rfl, k2, S2'⟩
        have k12 := k1.trans k2
        have gk2 := k12 _ _ kdp gk
        refine sq_ifset (.str z) rfl (fun b G3 => Same G2 G3 ∧ (b = true → ks ≠ [])) (fun x G4 => ∃ m, x = kv m ∧ (∀ y, m = some y → IsWord y ∧ y ≠ "key") ∧ Keep p G G4 ∧ Src G4 p (13 + 20 * t)) (fun Q q => ?_) (fun G3 h3 Q q => ?_) (fun G3 h3 => ?_) ?_
        · refine ⟨_, rfl, rfl, _, rfl, ?_⟩
          cases decide (V.int kind = V.int 0) with
          | false => exact iteF (q _ _ ⟨Same.refl G2, fun e => by cases e⟩)
          | true =>
            refine iteT ⟨_, rfl, (by show 0 ≤ sizeLine; decide), fun L nL => ?_⟩
            have sL := Lw.Same.new (o := .lst []) (Same.refl G2) nL
            refine ⟨.list (ks.map kvD), .list [], .lst (SqL.of (sL _ _ gk2)) (dp_kv ks), .lst (SqL.of upd_same) .nil, shaped_kv ks fun y hy => (hw y hy).1, by decide +kernel, _, rfl, ?_⟩
            rw [eqv_kv]
            refine q _ _ ⟨sL, fun e hks => ?_⟩
            rw [hks] at e
            cases e
        · obtain ⟨s3', hne⟩ := h3
          refine ⟨_, rfl, _, rfl, p, kd, _, _, rfl, S2'.same s3', by omega, kdp, SqL.of (s3' _ _ gk2), (fun e => hne rfl (List.map_eq_nil_iff.mp e)), (by rw [List.length_map]; omega), fun G4 x k4 s4 hx => ?_⟩
          obtain ⟨m, hm, rfl⟩ := List.mem_map.mp hx
          exact q _ _ ⟨m, rfl, fun y e => hw y (e ▸ hm), k12.trans ((Keep.of_same s3').trans k4), s4.mono (by omega)⟩
        · exact ⟨some z, rfl, fun y e => by cases e; exact ⟨hz, hzk⟩, k12.trans (Keep.of_same h3.1), (S2'.same h3.1).mono (by omega)⟩
        rintro _ G3 ⟨m, rfl, hm, k03, S3'⟩
        have kl : (ks.map kv).length < sizeLine := by rw [List.length_map, hl]; exact Nat.lt_of_lt_of_le ht2 (by decide)
        have xl : xs.length < sizeLine := by rw [← hK.1, hl]; exact Nat.lt_of_lt_of_le ht2 (by decide)
        have fin : ∀ (m0 : Option Str) (G3 : Hp), (∀ y, m0 = some y → IsWord y ∧ y ≠ "key") → Keep p G G3 → Src G3 p (14 + 20 * t) → G3 kd = some (.lst (ks.map kv)) ∧ (upd G3 kd (.lst (ks.map kv ++ [kv m0]))) en = some (.lst xs) ∧
            Src (upd G3 kd (.lst (ks.map kv ++ [kv m0]))) p (14 + 20 * t) ∧ ∀ (G5 : Hp) (x : V) (σ : L2.St), Keep p (upd G3 kd (.lst (ks.map kv ++ [kv m0]))) G5 → Src G5 p (20 + 20 * t) → Kd CC p G5 m0 x →
              (∃ u5 u6 u7 u8 u9 u10 u11 u12 u13 : Option V, σ = [some (.ref a), some (.int (0 + (j : Int))), some (.ref p), some (.ref kd), some (.ref en), u5, u6, u7, u8, u9, u10, u11, u12, u13]) → G5 en = some (.lst xs) ∧ Inn CC H a p kd en (.int (0 + (j : Int))) (t + 1) σ (upd G5 en (.lst (xs ++ [x]))) := by
          intro m0 G3 hm0 k03 S3
          have gk3 := k03 _ _ kdp gk
          have ge3 := k03 _ _ enp ge
          have gk4 : (upd G3 kd (.lst (ks.map kv ++ [kv m0]))) kd = some (.lst ((ks ++ [m0]).map kv)) := by rw [upd_same, List.map_append]; rfl
          have ge4 : (upd G3 kd (.lst (ks.map kv ++ [kv m0]))) en = some (.lst xs) := by rw [upd_ne kde.symm]; exact ge3
          refine ⟨gk3, ge4, S3.set kdp, ?_⟩
          rintro G5 x σ k5 S5 hx ⟨u5, u6, u7, u8, u9, u10, u11, u12, u13, rfl⟩
          have ge5 := k5 _ _ enp ge4
          refine ⟨ge5, u5, u6, u7, u8, u9, u10, u11, u12, u13, ks ++ [m0], xs ++ [x], rfl, by rw [upd_ne kde]; exact k5 _ _ kdp gk4, upd_same, ((((hK.keep k03).lset gk3).keep k5).snoc hx).lset ge5, by rw [List.length_append, hl]; rfl, fun y hy => ?_, (((BG.keep k03).set Hkd).keep k5).set Hen, (S5.set enp).mono (by omega)⟩
          rcases List.mem_append.mp hy with h | h
          · exact hw y h
          · exact hm0 y (List.mem_singleton.mp h).symm
        refine s1_if (fun b G4 => G3 = G4 ∧ (b = false → ∃ y, m = some y)) (fun Q q => ?_) ?_ ?_
        · refine ⟨_, rfl, rfl, _, rfl, ?_⟩
          cases decide (V.int kind = V.int 1) with
          | true => exact iteT (q _ _ ⟨rfl, fun e => by cases e⟩)
          | false =>
            refine iteF ⟨_, rfl, rfl, _, rfl, q _ _ ⟨rfl, fun e => ?_⟩⟩
            cases m with
            | none => cases e
            | some y => exact ⟨y, rfl⟩
        · rintro _ ⟨rfl, hnn⟩
          obtain ⟨gk3, ge4, S4', done⟩ := fin none G3 (fun y e => by cases e) k03 (S3'.mono (by omega))
          refine ⟨_, rfl, .inl ⟨rfl, _, SqL.of gk3⟩, kd, _, _, rfl, rfl, gk3, kl, ?_⟩
          generalize hG : upd G3 kd (.lst (ks.map kv ++ [V.non])) = G4
          have hG' : upd G3 kd (.lst (ks.map kv ++ [kv none])) = G4 := hG
          rw [hG'] at ge4 S4' done
          refine ⟨_, rfl, .inl ⟨rfl, _, SqL.of ge4⟩, _, rfl, _, rfl, p, _, rfl, S4', by omega, fun G5 v k5 S5 hv => ⟨(by show 2 ≤ sizeLine; decide), fun L nL => ?_⟩⟩
          refine ⟨p, L, _, _, rfl, S5.new nL, by omega, S5.ne nL, SqL.of upd_same, (fun z => by cases z), (by show 2 ≤ 100000; decide), fun G6 x k6 S6 hx => ?_⟩
          have hx2 : PlK p G6 x := by
            simp only [List.mem_cons, List.not_mem_nil, or_false] at hx
            rcases hx with rfl | rfl
            · exact (hv.plK.keep ((Keep.refl G5).new nL)).keep k6
            · exact ⟨_, .str _, fun e => by cases e⟩
          obtain ⟨g1, g2⟩ := done G6 x [some (.ref a), some (.int (0 + (j : Int))), some (.ref p), some (.ref kd), some (.ref en), some (.int (0 + (t : Int))), some (kv m), some (.int kind), v8, v9, v10, v11, v12, v13] (k5.trans (((Keep.refl G5).new nL).trans k6)) (S6.mono (by omega)) hx2 ⟨_, _, _, _, _, _, _, _, _, rfl⟩
          exact ⟨en, _, _, rfl, rfl, g1, xl, g2⟩
        · rintro _ ⟨rfl, hm2⟩
          obtain ⟨y, rfl⟩ := hm2 rfl
          obtain ⟨hy, hyk⟩ := hm y rfl
          refine sq_set (fun x G5 => ∃ i : Int, x = .int i ∧ Keep p G3 G5 ∧ Src G5 p (14 + 20 * t)) (fun Q q => ?_) ?_
          · exact ⟨_, rfl, p, _, _, rfl, S3', by omega, by decide, by decide, fun G2 i k2 s2 z0 z1 => q _ _ ⟨i, rfl, k2, s2.mono (by omega)⟩⟩
          rintro _ G5 ⟨fl, rfl, k5, S5⟩
          obtain ⟨gk3, ge4, S4', done⟩ := fin (some y) G5 hm (k03.trans k5) S5
          refine ⟨_, rfl, .inl ⟨rfl, _, SqL.of gk3⟩, _, rfl, kd, _, _, rfl, rfl, gk3, kl, ?_⟩
          generalize upd G5 kd (.lst (ks.map kv ++ [kv (some y)])) = G4 at ge4 S4' done
          refine ⟨_, rfl, .inl ⟨rfl, _, SqL.of ge4⟩, _, rfl, _, rfl, _, _, rfl, rfl, (show (2 : Int) ≠ 0 by decide), rfl, _, rfl, _, _, rfl, rfl, ⟨by decide, by decide⟩, _, _, rfl, rfl, (show (2 : Int) ≠ 0 by decide), rfl, _, rfl, _, _, rfl, rfl, rfl, rfl, ?_⟩
          refine col_new hy hyk fun x dx G6 s6 nx hG6 => ?_
          obtain ⟨g1, g2⟩ := done G6 (.ref x) [some (.ref a), some (.int (0 + (j : Int))), some (.ref p), some (.ref kd), some (.ref en), some (.int (0 + (t : Int))), some (kv (some y)), some (.int kind), some (.int fl), v9, v10, v11, v12, v13] (Keep.of_same s6) ((S4'.same s6).mono (by omega)) ⟨hy, x, dx, _, _, _, rfl, S4'.ne nx, hG6⟩ ⟨_, _, _, _, _, _, _, _, _, rfl⟩
          exact ⟨en, _, _, rfl, rfl, g1, xl, g2⟩
      · rintro σ G ⟨v5, v6, v7, v8, v9, v10, v11, v12, v13, ks, xs, rfl, gk, ge, hK, hl, hw, BG, SG⟩
        dsimp only
        have kl5 : ks.length ≤ 5 := by omega
        have xl : xs.length ≤ 1000 := by rw [← hK.1]; omega
        have S0 : Src G p 200 := SG.mono (by omega)
        obtain ⟨r, hd⟩ := due_ex ks
        refine sq_if1 (fun b G1 => b = false ∧ Same G G1) (fun Q q => ?_) ?_ ?_
        · refine ⟨_, rfl, en, xs, rfl, .inl (SqL.of ge), fun l nl => ?_⟩
          have s1 := Lw.Same.new (o := .lst xs) (Same.refl G) nl
          refine ⟨l, p, ks, xs, r, rfl, upd_same, hK.keep (Keep.of_same s1), xl, hd, fun G1 s2 => ?_⟩
          refine ⟨_, rfl, kd, ks, r, rfl, s2 _ _ (s1 _ _ gk), by omega, hd, fun G2 s3 => ⟨sc_rv r, _, rfl, ite_same ?_⟩⟩
          have s4 := (s1.trans s2).trans s3
          exact ⟨_, rfl, en, xs, rfl, .inl (SqL.of (s4 _ _ ge)), _, rfl, kd, _, rfl, .inl (SqL.of (s4 _ _ gk)), rfl, _, rfl, q _ _ ⟨by rw [List.length_map, hK.1, decide_eq_true rfl]; rfl, s4⟩⟩
        · rintro _ ⟨e, _⟩
          cases e
        rintro G1 ⟨_, s01⟩
        refine sq_if1 (fun b G2 => b = false ∧ Same G1 G2) (fun Q q => ?_) ?_ ?_
        · refine ⟨_, rfl, en, xs, rfl, .inl (SqL.of (s01 _ _ ge)), fun l nl => ?_⟩
          have s1 := Lw.Same.new (o := .lst xs) (Same.refl G1) nl
          refine ⟨l, p, ks, xs, r, rfl, upd_same, hK.keep (Keep.of_same (s01.trans s1)), xl, hd, fun G2 s2 => ?_⟩
          refine ⟨_, rfl, kd, ks, r, rfl, s2 _ _ (s1 _ _ (s01 _ _ gk)), by omega, hd, fun G3 s3 => ⟨sc_rv r, _, rfl, q _ _ ⟨by rw [decide_eq_true rfl]; rfl, (s1.trans s2).trans s3⟩⟩⟩
        · rintro _ ⟨e, _⟩
          cases e
        rintro G2 ⟨_, s12⟩
        have B2' := BG.keep (Keep.of_same (s01.trans s12))
        have S2' := S0.same (s01.trans s12)
        refine sq_par (fun x y G3 => ∃ w1 w2 : Str, x = .str w1 ∧ y = .str w2 ∧ IsWord w1 ∧ w1 ≠ "key" ∧ IsWord w2 ∧ w2 ≠ "key" ∧ Keep p G2 G3 ∧ Src G3 p 220) (fun Q q => ?_) ?_
        · refine ⟨_, rfl, (by show 1 ≤ sizeLine; decide), fun L nL => ⟨p, L, _, ["key"], rfl, S2'.new nL, by omega, S2'.ne nL, SqL.of upd_same, by decide, fun G3 z1 k1 s1 hz1 hn1 => ?_⟩⟩
          refine ⟨_, rfl, (by show 1 ≤ sizeLine; decide), fun L2 nL2 => ⟨p, L2, _, ["key"], rfl, s1.new nL2, by omega, s1.ne nL2, SqL.of upd_same, by decide, fun G4 z2 k2 s2 hz2 hn2 => ?_⟩⟩
          exact q _ _ _ ⟨z1, z2, rfl, rfl, hz1, fun e => hn1 (by rw [e]; exact List.mem_singleton.mpr rfl), hz2, fun e => hn2 (by rw [e]; exact List.mem_singleton.mpr rfl), (((Keep.refl G2).new nL).trans k1).trans (((Keep.refl G3).new nL2).trans k2), s2.mono (by omega)⟩
        rintro _ _ G3 ⟨w1, w2, rfl, rfl, hw1, hw1k, hw2, hw2k, k23, S3'⟩
        refine sq_par3 (fun x y z G4 => ∃ x1 x2 x3 : Addr, x = .ref x1 ∧ y = .ref x2 ∧ z = .ref x3 ∧ Kd CC p G4 (some w1) (.ref x1) ∧ Kd CC p G4 (some w2) (.ref x2) ∧ Kd CC p G4 (some w1) (.ref x3) ∧ Same G3 G4) (fun Q q => ?_) ?_
        · refine ⟨_, rfl, col_new hw1 hw1k fun x1 d1 H1 t1 n1 g1 => ⟨_, rfl, col_new hw2 hw2k fun x2 d2 H2 t2 n2 g2 => ⟨_, rfl, rfl, rfl, col_new hw1 hw1k fun x3 d3 H3 t3 n3 g3 => ?_⟩⟩⟩
          exact q _ _ _ _ ⟨x1, x2, x3, rfl, rfl, rfl, ⟨hw1, x1, d1, _, _, _, rfl, S3'.ne n1, t3 _ _ (t2 _ _ g1)⟩, ⟨hw2, x2, d2, _, _, _, rfl, (S3'.same t1).ne n2, t3 _ _ g2⟩, ⟨hw1, x3, d3, _, _, _, rfl, (S3'.same (t1.trans t2)).ne n3, g3⟩, (t1.trans t2).trans t3⟩
        rintro _ _ _ G4 ⟨x1, x2, x3, rfl, rfl, rfl, q1, q2, q3, s34⟩
        have at_ : ∀ {k : Option Str} {v : V} {G5 : Hp}, Same G4 G5 → Kd CC p G4 k v → Kd CC p G5 k v := fun s h => h.keep (Keep.of_same s)
        have kn : ∀ {G5 : Hp}, Kd CC p G5 none .non := ⟨_, .non, fun e => by cases e⟩
        refine sq_if1 (fun b G5 => b = false ∧ Same G4 G5) (fun Q q => ?_) ?_ ?_
        · refine ⟨_, rfl, (by show 1 ≤ sizeLine; decide), fun l1 n1 => ?_⟩
          have a1 := Lw.Same.new (o := .lst [.ref x1]) (Same.refl G4) n1
          refine ⟨l1, p, [some w1], [.ref x1], none, rfl, upd_same, Kds.nil.snoc (at_ a1 q1), (by show 1 ≤ 1000; decide), due_1 w1, fun G5 b1 => ⟨rfl, _, rfl, ite_same (x := V.non) ⟨(by show 0 ≤ sizeLine; decide), fun l2 n2 => ?_⟩⟩⟩
          have a2 := Lw.Same.new (o := .lst []) ((a1.trans b1)) n2
          refine ⟨l2, p, [], [], some (-1), rfl, upd_same, Kds.nil, (by show 0 ≤ 1000; decide), due_0, fun G6 b2 => ⟨_, rfl, rfl, _, rfl, ite_same (x := V.int (-1)) ⟨_, rfl, _, rfl, (by show 2 ≤ sizeLine; decide), fun l3 n3 => ?_⟩⟩⟩
          have a3 := Lw.Same.new (o := .lst [.ref x1, .ref x3]) (a2.trans b2) n3
          exact ⟨l3, p, [some w1, some w1], [.ref x1, .ref x3], some 1, rfl, upd_same, (Kds.nil.snoc (at_ a3 q1)).snoc (at_ a3 q3), (by show 2 ≤ 1000; decide), due_2 w1, fun G7 b3 => ⟨rfl, _, rfl, q _ _ ⟨by decide +kernel, a3.trans b3⟩⟩⟩
        · rintro _ ⟨e, _⟩
          cases e
        rintro G5 ⟨_, s45⟩
        obtain ⟨r2, hd2, e1, e2⟩ := due_12 w1 w2
        refine sq_if1 (fun b G6 => b = false ∧ Same G5 G6) (fun Q q => ?_) ?_ ?_
        · refine ⟨_, rfl, _, rfl, (by show 2 ≤ sizeLine; decide), fun l1 n1 => ?_⟩
          have a1 := Lw.Same.new (o := .lst [.ref x1, .ref x2]) (Same.refl G5) n1
          refine ⟨l1, p, [some w1, some w2], [.ref x1, .ref x2], r2, rfl, upd_same, (Kds.nil.snoc (at_ (s45.trans a1) q1)).snoc (at_ (s45.trans a1) q2), (by show 2 ≤ 1000; decide), hd2, fun G6 b1 => ?_⟩
          have last : ∀ Q2 : Bool → Hp → Prop, (∀ b H', b = false ∧ Same G6 H' → Q2 b H') → (tTest (tOp rNe (tCall (spTold CC) [] E0 (tCons (tLst (tCons (tC .non) (tCons (tVar 11) (tCons (tVar 13) tNil)))) tNil)) (tC (.int 0))))
              [some (.ref a), some (.int (0 + (j : Int))), some (.ref p), some (.ref kd), some (.ref en), v5, v6, v7, v8, some (.str w1), some (.str w2), some (.ref x1), some (.ref x2), some (.ref x3)] G6 Q2 := fun Q2 q2' => by
            refine ⟨_, rfl, _, rfl, (by show 3 ≤ sizeLine; decide), fun l2 n2 => ?_⟩
            have a2 := Lw.Same.new (o := .lst [.non, .ref x1, .ref x3]) (Same.refl G6) n2
            have c2 := ((s45.trans a1).trans b1).trans a2
            exact ⟨l2, p, [none, some w1, some w1], [.non, .ref x1, .ref x3], some 0, rfl, upd_same, ((Kds.nil.snoc kn).snoc (at_ c2 q1)).snoc (at_ c2 q3), (by show 3 ≤ 1000; decide), due_3 _ (by simp), fun G7 b3 => ⟨rfl, _, rfl, q2' _ _ ⟨by decide +kernel, a2.trans b3⟩⟩⟩
          refine ⟨_, rfl, _, rfl, rfl, _, rfl, str_ite (fun e => ?_) (fun e => ?_)⟩
          · rw [e1 e]
            exact ⟨rfl, _, rfl, ite_same (x := V.int 1) (last _ fun b H' h => q _ _ ⟨h.1, (a1.trans b1).trans h.2⟩)⟩
          · rw [e2 e]
            exact ⟨rfl, _, rfl, ite_same (x := V.non) (last _ fun b H' h => q _ _ ⟨h.1, (a1.trans b1).trans h.2⟩)⟩
        · rintro _ ⟨e, _⟩
          cases e
        rintro G6 ⟨_, s56⟩
        have d4 := due_4 [none, some w1, some w2, some w1] rfl
        have all4 : ∀ {G7 : Hp}, Same G6 G7 → Kds CC p G7 [none, some w1, some w2, some w1] [.non, .ref x1, .ref x2, .ref x3] := fun s => (((Kds.nil.snoc kn).snoc (at_ ((s45.trans s56).trans s) q1)).snoc (at_ ((s45.trans s56).trans s) q2)).snoc (at_ ((s45.trans s56).trans s) q3)
        refine s1_if (fun b G7 => b = false ∧ Same G6 G7) (fun Q q => ?_) ?_ ?_
        · refine ⟨_, rfl, _, rfl, _, rfl, (by show 4 ≤ sizeLine; decide), fun l1 n1 => ?_⟩
          have a1 := Lw.Same.new (o := .lst [.non, .ref x1, .ref x2, .ref x3]) (Same.refl G6) n1
          refine ⟨l1, p, _, _, some (-1), rfl, upd_same, all4 a1, (by show 4 ≤ 1000; decide), d4, fun G7 b1 => ⟨_, rfl, rfl, _, rfl, ite_same (x := V.int (-1)) ⟨_, rfl, _, rfl, _, rfl, (by show 4 ≤ sizeLine; decide), fun l2 n2 => ?_⟩⟩⟩
          have a2 := Lw.Same.new (o := .lst [.non, .ref x1, .ref x2, .ref x3]) (a1.trans b1) n2
          exact ⟨l2, p, _, _, some (-1), rfl, upd_same, all4 a2, (by show 4 ≤ 1000; decide), d4, fun G8 b2 => ⟨_, rfl, rfl, _, rfl, q _ _ ⟨by decide +kernel, a2.trans b2⟩⟩⟩
        · rintro _ ⟨e, _⟩
          cases e
        rintro G7 ⟨_, s67⟩
        exact ⟨_, _, _, _, _, _, _, _, _, _, _, _, _, rfl, (B2'.keep (k23.trans (Keep.of_same (((s34.trans s45).trans s56).trans s67)))).out⟩
    · rintro σ G ⟨v1, v2, v3, v4, v5, v6, v7, v8, v9, v10, v11, v12, v13, rfl, s⟩
      exact k G
end
end Lw

set_option Elab.async false
set_option linter.all false
set_option maxRecDepth 100000
set_option maxHeartbeats 0
namespace Hb
open PySem PySem.Spec PyProof.Rows L2
/-! a Hook: facts, defs wherever they stand, one Bool more -/
abbrev Al : Type := He.AlD × Bool
def obG (n : Nat) (fa : List He.Fa) (fn : List He5.DefA) (own : PySem.W.Frag → Bool) (g : Addr → Option Obj) : Al := (He5.obsAG n fa fn g, own (He.frG g (He5.asA g n)))
def Says (fa : List He.Fa) (fn : List He5.DefA) (own : PySem.W.Frag → Bool) (K : PySem.W.Frag) : Prop := He5.SaysA fa fn K ∧ own K = true
def hook (n : Nat) (fa : List He.Fa) (fn : List He5.DefA) (own : PySem.W.Frag → Bool) : PySem.W.Hook where
  α := Al
  obs := fun s => obG n fa fn own s.heap.get?
  val := fun _ => (He5.valA fn, true)
  says := fun _ h => ∃ K : PySem.W.Frag, K.In h ∧ Says fa fn own K
  of := fun _ _ e => ⟨_, He.frG_in, congrArg Prod.fst e, congrArg Prod.snd e⟩
  keeps := fun _ _ _ ⟨K, hK, c⟩ k => ⟨K, PySem.W.Frag.In.keeps hK k, c⟩
theorem obG_eq {n : Nat} {fa : List He.Fa} {fn : List He5.DefA} {own : PySem.W.Frag → Bool} {g : Addr → Option Obj} {s : Shared} (h : ∀ a, g a = s.heap.get? a) : obG n fa fn own g = (hook n fa fn own).obs s := by
  rw [show g = s.heap.get? from funext h] <;> rfl
theorem Says.fact {fa : List He.Fa} {fn : List He5.DefA} {own : PySem.W.Frag → Bool} {K : PySem.W.Frag} (c : Says fa fn own K) {f : He.Fa} (hf : f ∈ fa) : f.ok K = true := by
  obtain ⟨i, hi⟩ := List.getElem?_of_mem hf
  exact c.1.fact i hi
/-- a class's constants -/
def cvS (K : PySem.W.Frag) (C : Addr) (f z : Str) : Bool := match PySem.W.findCls K (.ref C) (.type "type") f with
  | some (.val (.str y _)) => decide (y = z)
  | _ => false
def cvI (K : PySem.W.Frag) (C : Addr) (f : Str) (i : Int) : Bool := match PySem.W.findCls K (.ref C) (.type "type") f with
  | some (.val (.int y _)) => decide (y = i)
  | _ => false
theorem cvS_ok {K : PySem.W.Frag} {C : Addr} {f z : Str} (h : cvS K C f z = true) : ∃ u, ClX.CVal K C (.type "type") f (.str z) u := by
  unfold cvS at h
  split at h
  · rename_i y t e
    exact ⟨_, e, t, by rw [of_decide_eq_true h]⟩
  · cases h
theorem cvI_ok {K : PySem.W.Frag} {C : Addr} {f : Str} {i : Int} (h : cvI K C f i = true) : ∃ u, ClX.CVal K C (.type "type") f (.int i) u := by
  unfold cvI at h
  split at h
  · rename_i y t e
    exact ⟨_, e, t, by rw [of_decide_eq_true h]⟩
  · cases h
def crB (K : PySem.W.Frag) (C : Addr) : Bool := PySem.W.readsIn K C (.type "type") && He.eqO (PySem.W.specialIn K (.ref C) "__getattribute__") (some (some (.builtin "type.__getattribute__")))
theorem crB_ok {K : PySem.W.Frag} {C : Addr} (h : crB K C = true) : ClX.CRead K C (.type "type") := ⟨(He.ba h).1, He.eqO_ok (He.ba h).2⟩
end Hb
namespace Lw
open PySem PySem.Spec PyProof.Rows L2
def dG (x : Str) (st : Stmt) : He5.DefA := ⟨fun K => He.ga K x, x, x, defArgs st, defBody st, defScope st, [], []⟩
def dM (C m q : Str) (st : Stmt) (kwd : List (Str × He.Dv) := []) : He5.DefA := ⟨fun K => He.ma K (He.ga K C) m, m, q, defArgs st, defBody st, defScope st, [], kwd⟩
def dC (C m q : Str) (st : Stmt) : He5.DefA := ⟨fun K => He5.wf K (He.ga K C) "classmethod" m, m, q, defArgs st, defBody st, defScope st, [], []⟩
def fn : List He5.DefA := [dG "is_word" sIsWord, dG "copied" sCopied, dM "BadTable" "__init__" "BadTable.__init__" sBT, dM "Column" "__init__" "Column.__init__" sColI [("large", .bl false), ("fixed", .bl false), ("empty", .bl false)], dM "Table" "__init__" "Table.__init__" sTabI, dC "Table" "of" "Table.of" sTabOf,
  dG "_law_source" sSource, dG "_law_draw" sDraw, dG "_law_of" sOf, dG "_law_integer" sInt, dG "_law_word" sWord, dG "_law_odd" sOdd, dG "_law_told" sTold, dG "_law_of_told" sOfTold, dG "_law_due" sDue, dG "law" sLaw]
def glos : List Str := ["is_word", "copied", "BadTable", "BadColumn", "CopiesError", "Column", "Table", "_law_source", "_law_draw", "_law_of", "_law_integer", "_law_word", "_law_odd", "_law_told", "_law_of_told", "_law_due", "law"]
def frees : List Str := ["len", "abs", "int", "range", "isinstance", "bool", "str", "list", "tuple", "dict", "all", "max", "min", "enumerate"]
def fa : List He.Fa := glos.map He.Fa.glo ++ (frees.map He.Fa.free ++ [.int "LONGEST_WORD" 8, .cls "Column", .noat "Column" "name", .noat "Column" "large", .noat "Column" "fixed", .noat "Column" "empty", .mkr "Column", .cls "Table", .noat "Table" "columns", .noat "Table" "names", .mkr "Table", .exm "BadTable" "BadTable" true, .meth "BadTable" "__init__"])
def own (K : PySem.W.Frag) : Bool := Hk.clsB K (He.ga K "BadTable") && (He.eqO (PySem.W.findIn K (.ref (He.ga K "BadTable")) "at") (some none) && (Hk.excB K (He.ga K "BadTable") && (Hk.insB K (He.ga K "Column") &&
  (decide (PySem.W.kitOne K (.ref (He.ga K "BadTable")) (.ref (He.ga K "BadColumn")) = some false) && (decide (PySem.W.kitOne K (.ref (He.ga K "BadTable")) (.ref (He.ga K "CopiesError")) = some true) &&
  (plTys.all (fun t => decide (PySem.W.kitOne K (.type t) (.ref (He.ga K "Column")) = some false)) && (decide (He.ga K "Table" ≠ He.ga K "Column") && (Hb.crB K (He.ga K "Table") && (Hb.cvS K (He.ga K "Table") "KEY" "key" && (Hb.cvI K (He.ga K "Table") "MOST" 3 &&
  (He5.wrapB K (He.ga K "Table") "classmethod" "classmethod.__get__" "of" && PySem.W.fnIn K (He5.wf K (He.ga K "Table") "classmethod" "of"))))))))))))
abbrev R : PySem.W.OpenRow := PySem.W.OpenLaw.row PySem.Challenge.rw_filteredcopies_k04_tables_refused
abbrev qv : Program := PySem.W.view R.prog [23]
def names1 : List Str := ["_wall", "LONGEST_WORD", "is_word", "copied", "CopiesError", "BadColumn", "BadTable", "NoColumn", "Column", "Table"]
def names2 : List Str := ["_law_source", "_law_draw", "_law_of", "_law_integer", "_law_word", "_law_odd", "_law_told", "_law_of_told", "_law_due"]
def names : List Str := names1 ++ names2
abbrev hk : PySem.W.Hook := Hb.hook 6 fa fn own
def ob (s : PySem.W.SharedT) : Hb.Al := Hb.obG 6 fa fn own (HandSHeadRun.getT s)
theorem ob_eq (s : PySem.W.SharedT) : ob s = hk.obs s.abs := Hb.obG_eq (HandSHeadRun.getT_eq s)
theorem run (w : World) : HandSHeadRun.RunEq R qv hk ob 9000 names w :=
  PySem.W.byRow2 "special-get-raises" (P := fun w => HandSHeadRun.RunEq R qv hk ob 9000 names w) (fun w => by intro os; kernel_rfl) (fun w => by intro os; kernel_rfl) w
end Lw

set_option Elab.async false
set_option linter.all false
set_option maxRecDepth 100000
set_option maxHeartbeats 4000000
namespace Lw
open PySem PySem.Spec PyProof.Rows L2
section
variable {K : PySem.W.Frag} {h : Heap} {mg : Str → Option Value}
theorem f_glo (X : K.In h) (G : h.Ns mainGlobals mg) (c : Hb.Says fa fn own K) {x : Str} (hx : x ∈ glos) : mg x = some (.ref (He.ga K x)) :=
  He.glo_ok X G (c.fact (f := .glo x) (List.mem_append_left _ (List.mem_map_of_mem hx)))
theorem f_free (X : K.In h) (G : h.Ns mainGlobals mg) (c : Hb.Says fa fn own K) {x : Str} (hx : x ∈ frees) : mg x = none :=
  He.free_ok X G (c.fact (f := .free x) (List.mem_append_right _ (List.mem_append_left _ (List.mem_map_of_mem hx))))
end
theorem facts {P : Program} {w : World} {K : PySem.W.Frag} {h : Heap} {mg : Str → Option Value} {f : Addr} (X : K.In h) (G : h.Ns mainGlobals mg) (hfa : mg ("law" : Str) = some (.ref f)) (c : Hb.Says fa fn own K) :
    ∃ fd : FuncData, (∀ (s : Shared) (v : Value), BindsTo s fd ⟨[v], []⟩ [("script", v)]) ∧ ∀ base : Heap, K.In base → base.Ns mainGlobals mg → FnOk P w K mg base CX0 8 f fd ["script"] (spLaw K) := by
  have gl : ∀ {x : Str}, x ∈ glos → mg x = some (.ref (He.ga K x)) := fun hx => f_glo X G c hx
  have fr : ∀ {x : Str}, x ∈ frees → mg x = none := fun hx => f_free X G c hx
  obtain ⟨o1, o⟩ := He.ba c.2
  obtain ⟨o2, o⟩ := He.ba o
  obtain ⟨o3, o⟩ := He.ba o
  obtain ⟨o4, o⟩ := He.ba o
  obtain ⟨o5, o⟩ := He.ba o
  obtain ⟨o6, o⟩ := He.ba o
  obtain ⟨o7, o⟩ := He.ba o
  obtain ⟨o8, o⟩ := He.ba o
  obtain ⟨o9, o⟩ := He.ba o
  obtain ⟨o10, o⟩ := He.ba o
  obtain ⟨o11, o⟩ := He.ba o
  obtain ⟨o12, o13⟩ := He.ba o
  have oex := Hk.oexB_ok o1
  have noA : PySem.W.findIn K (.ref (He.ga K "BadTable")) "at" = some none := He.eqO_ok o2
  obtain ⟨exc, xf⟩ := Hk.excB_ok o3
  obtain ⟨i1, i⟩ := He.ba o4
  obtain ⟨i2, i⟩ := He.ba i
  obtain ⟨i3, i4⟩ := He.ba i
  obtain ⟨d0, D0⟩ := c.1.def_ 0 (d := dG "is_word" sIsWord) rfl
  obtain ⟨d1, D1⟩ := c.1.def_ 1 (d := dG "copied" sCopied) rfl
  obtain ⟨d2, D2⟩ := c.1.def_ 2 (d := dM "BadTable" "__init__" "BadTable.__init__" sBT) rfl
  obtain ⟨d3, D3⟩ := c.1.def_ 3 (d := dM "Column" "__init__" "Column.__init__" sColI [("large", .bl false), ("fixed", .bl false), ("empty", .bl false)]) rfl
  obtain ⟨d4, D4⟩ := c.1.def_ 4 (d := dM "Table" "__init__" "Table.__init__" sTabI) rfl
  obtain ⟨d5, D5⟩ := c.1.def_ 5 (d := dC "Table" "of" "Table.of" sTabOf) rfl
  obtain ⟨d6, D6⟩ := c.1.def_ 6 (d := dG "_law_source" sSource) rfl
  obtain ⟨d7, D7⟩ := c.1.def_ 7 (d := dG "_law_draw" sDraw) rfl
  obtain ⟨d8, D8⟩ := c.1.def_ 8 (d := dG "_law_of" sOf) rfl
  obtain ⟨d9, D9⟩ := c.1.def_ 9 (d := dG "_law_integer" sInt) rfl
  obtain ⟨d10, D10⟩ := c.1.def_ 10 (d := dG "_law_word" sWord) rfl
  obtain ⟨d11, D11⟩ := c.1.def_ 11 (d := dG "_law_odd" sOdd) rfl
  obtain ⟨d12, D12⟩ := c.1.def_ 12 (d := dG "_law_told" sTold) rfl
  obtain ⟨d13, D13⟩ := c.1.def_ 13 (d := dG "_law_of_told" sOfTold) rfl
  obtain ⟨d14, D14⟩ := c.1.def_ 14 (d := dG "_law_due" sDue) rfl
  obtain ⟨d15, D15⟩ := c.1.def_ 15 (d := dG "law" sLaw) rfl
  have e := hfa.symm.trans (gl (x := "law") (by decide +kernel))
  cases e
  refine ⟨d15, fun s v => FunD.bindsA (ps := ["script"]) D15 (fun _ _ _ _ _ _ us hl => match us, hl with | [_], _ => rfl) s [v] rfl, fun base KB GB => ?_⟩
  have TP : TxtP mg := ⟨fr (by decide +kernel), fr (by decide +kernel), fr (by decide +kernel), fr (by decide +kernel), fr (by decide +kernel), fr (by decide +kernel), fr (by decide +kernel), fr (by decide +kernel), fr (by decide +kernel), He.int_ok X G (c.fact (by unfold fa; simp))⟩
  have TD : TxtD mg := ⟨fr (by decide +kernel), fr (by decide +kernel), fr (by decide +kernel), fr (by decide +kernel)⟩
  have cW : Cal P w K mg base CX0 "is_word" 1 ["value"] (spIsWord K) := ⟨_, _, gl (by decide +kernel), D0.kp, ok_isWord D0 TP, D0.bindsN fun _ _ _ _ _ _ us hl => match us, hl with | [_], _ => rfl⟩
  have cC : Cal P w K mg base CX0 "copied" 1 ["value"] (spCopied K) := ⟨_, _, gl (by decide +kernel), D1.kp, ok_copied D1 TP, D1.bindsN fun _ _ _ _ _ _ us hl => match us, hl with | [_], _ => rfl⟩
  have TB : TxtB K mg (He.ga K "BadTable") := ⟨oex, noA, gl (by decide +kernel)⟩
  have MB := He.meth_ok (c.fact (f := .meth "BadTable" "__init__") (by unfold fa; simp))
  have B : BadT P w K mg base (He.ga K "BadTable") := ⟨TB, _, _, MB.at_, beq_iff_eq.mp MB.fn, ok_bt D2 TB cC, D2.bindsN fun _ _ _ _ _ _ us hl => match us, hl with | [_, _], _ => rfl⟩
  have cr := Hb.crB_ok o9
  have TC : TxtC K mg (He.ga K "Column") (He.ga K "Table") := ⟨He.cls_ok (c.fact (by unfold fa; simp)), He.noat_ok (c.fact (by unfold fa; simp)), He.noat_ok (c.fact (by unfold fa; simp)), He.noat_ok (c.fact (by unfold fa; simp)), He.noat_ok (c.fact (by unfold fa; simp)), gl (by decide +kernel), gl (by decide +kernel), cr, Hb.cvS_ok o10, Hb.cvI_ok o11⟩
  have MC : ColM P w K mg base (He.ga K "Column") (He.ma K (He.ga K "Column") "__init__") d3 := ⟨gl (by decide +kernel), He.mkr_ok (c.fact (by unfold fa; simp)), ok_colI D3 TC cW, D3⟩
  have TT : TxtTb K mg (He.ga K "Column") (He.ga K "Table") := ⟨He.cls_ok (c.fact (by unfold fa; simp)), He.noat_ok (c.fact (by unfold fa; simp)), He.noat_ok (c.fact (by unfold fa; simp)), of_decide_eq_true o8, fr (by decide +kernel), fr (by decide +kernel), fr (by decide +kernel), fr (by decide +kernel),
    fun t ht => of_decide_eq_true (List.all_eq_true.mp o7 t ht), He.eqO_ok i1, of_decide_eq_true i3, of_decide_eq_true i4, of_decide_eq_true i2⟩
  have MT : Mk K (He.ga K "Table") (He.ma K (He.ga K "Table") "__init__") := He.mkr_ok (c.fact (by unfold fa; simp))
  have FT := ok_tabI (P := P) (w := w) (base := base) D4 TC TT B
  have bT : Binds K d4 ["self", "columns"] [] := D4.bindsN fun _ _ _ _ _ _ us hl => match us, hl with | [_, _], _ => rfl
  have FO := ok_tabOf D5 TT (fr (by decide +kernel)) MT FT bT
  have cO := He5.cmet_of (K := K) (C := He.ga K "Table") (m := "of") o12 o13
  have TU : TxtU K mg (He.ga K "BadTable") (He.ga K "BadColumn") (He.ga K "CopiesError") := ⟨fr (by decide +kernel), fr (by decide +kernel), fr (by decide +kernel), fr (by decide +kernel), fr (by decide +kernel), gl (by decide +kernel), gl (by decide +kernel), gl (by decide +kernel), exc, xf, noA, He.exm_ok (c.fact (by unfold fa; simp)), of_decide_eq_true o5, of_decide_eq_true o6⟩
  have cDr := cal_draw (P := P) (w := w) (base := base) TD ⟨_, _, gl (by decide +kernel), D7⟩
  have cOf : Cal P w K mg base CX0 "_law_of" 2 ["source", "some"] (spOf K) := ⟨_, _, gl (by decide +kernel), D8.kp, ok_of D8 TD cDr, D8.bindsN fun _ _ _ _ _ _ us hl => match us, hl with | [_, _], _ => rfl⟩
  refine ok_law D15 (CC := He.ga K "Column") ⟨⟨_, _, gl (by decide +kernel), D6.kp, ok_source D6 TD, D6.bindsN fun _ _ _ _ _ _ us hl => match us, hl with | [_, _], _ => rfl⟩, cDr, cOf,
    ⟨_, _, gl (by decide +kernel), D10.kp, ok_word D10 TD cDr, D10.bindsN fun _ _ _ _ _ _ us hl => match us, hl with | [_, _], _ => rfl⟩,
    ⟨_, _, gl (by decide +kernel), D11.kp, ok_odd D11 cOf, D11.bindsN fun _ _ _ _ _ _ us hl => match us, hl with | [_], _ => rfl⟩,
    ⟨_, _, gl (by decide +kernel), D12.kp, ok_told D12 TU TT.ne (gl (by decide +kernel)) MT FT bT (gl (by decide +kernel)) D9.kp (ok_intH D9 TU) (D9.bindsN fun _ _ _ _ _ _ us hl => match us, hl with | [_], _ => rfl), D12.bindsN fun _ _ _ _ _ _ us hl => match us, hl with | [_], _ => rfl⟩,
    ⟨_, _, gl (by decide +kernel), D13.kp, ok_ofTold D13 TU (gl (by decide +kernel)) cr cO FO, D13.bindsN fun _ _ _ _ _ _ us hl => match us, hl with | [_], _ => rfl⟩,
    ⟨_, _, gl (by decide +kernel), D14.kp, ok_due D14 TU, D14.bindsN fun _ _ _ _ _ _ us hl => match us, hl with | [_], _ => rfl⟩,
    fr (by decide +kernel), fr (by decide +kernel), fr (by decide +kernel), fr (by decide +kernel), fr (by decide +kernel)⟩ MC
end Lw

open PySem PySem.W PyProof.Rows in
theorem PySem.Challenge.cw_filteredcopies_k04_tables_refused_holds : PySem.Challenge.rw_filteredcopies_k04_tables_refused.Holds := by
  w_on; o_law
  refine HandSHeadRun.head_any (r := Lw.R) (q := Lw.qv) (H := Lw.hk) (ob := Lw.ob) (M := 9000) (loose := Lw.names) (d := HandSHeadRun.topDef Lw.R.prog 23) (kwd := []) Lw.ob_eq
    (by kernel_rfl) (fun s => by kernel_rfl) Lw.run (by kernel_rfl) (by kernel_rfl) (by kernel_rfl) (by rfl) (by first | assumption | decide +kernel) (by decide +kernel) ⟨rfl, rfl, rfl, rfl, rfl, by decide +kernel⟩ ?hw ?hc
  case hw => w_witness2
  case hc =>
    refine L2.walk_ofE (l := PySem.Challenge.rw_filteredcopies_k04_tables_refused) (n := 63) (k := 8) (x := "script") (CX := L2.CX0) rfl (by decide) (by kernel_rfl) ⟨rfl, by decide, by decide⟩ ?F (fun _ _ _ _ z => z)
    intro w mg fa h Y G hmg0
    obtain ⟨K, KX, c⟩ := Y
    have hmg : mg ("law" : PySem.Str) = some (.ref fa) := by
      have e : (HandSHeadRun.topDef Lw.R.prog 23).name = ("law" : PySem.Str) := by kernel_rfl
      rw [← e]
      exact hmg0
    obtain ⟨fd, hb, hF⟩ := Lw.facts (P := (PySem.Challenge.rw_filteredcopies_k04_tables_refused).prog) (w := w) KX G hmg c
    exact ⟨K, fd, Lw.spLaw K, KX, hb, fun H a ns hl _ hS => ⟨a, ns, rfl, hS, hl, fun _ => rfl⟩, hF⟩
