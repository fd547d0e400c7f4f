import PyProof.Rows.All
import Wide.All
import OpenK.AllK
import Wide.FinOn
import HandS.Base
import HandS.Call
import HandS.List
import HandS.Comp
import HandS.Dict
import HandS.Iter
import HandS.Text
import HandS.Ends
import HandS.Words
import HandS.WordsList
import HandS.Exc
import HandS.ExcOwn
import HandS.TryOnly
import HandS.ExcInit
import HandS.More
import HandS.Defaults
import HandS.Walk
import KE.KExcIs
import HandS.IsInst
import HandS.ExcIs
import HandS.ExcField
import HandS.Style
import HandS.WordsExc
import HandS.Head0
import HandS.Head1
import HandS.Head2
import HandS.HeadEnd
import HandS.HeadHook1
import HandS.HeadHook2
import HandS.HeadHook3
import PySem.Challenge.RW_filteredcopies_k07_comparisons_refused
set_option Elab.async false
set_option linter.all false
set_option maxRecDepth 100000
set_option maxHeartbeats 2000000
namespace Lw
open PySem PySem.Spec PyProof.Rows L2
def top (i : Nat) : Stmt := PySem.Challenge.pw_filteredcopies_k07_comparisons_refused.main.body.getD i (.Pass ⟨0, 0, 0, 0⟩)
abbrev sSource : Stmt := top 41
abbrev sDraw : Stmt := top 42
abbrev sOf : Stmt := top 43
abbrev sNumber : Stmt := top 44
/-! heaps: all but what stands at a is kept -/
def Keep (a : Addr) (H H' : Hp) : Prop := ∀ b o, b ≠ a → H b = some o → H' b = some o
theorem Keep.refl {a : Addr} (H : Hp) : Keep a H H := fun _ _ _ h => h
theorem Keep.trans {a : Addr} {H H1 H2 : Hp} (x : Keep a H H1) (y : Keep a H1 H2) : Keep a H H2 := fun b o n h => y b o n (x b o n h)
theorem Keep.of_same {a : Addr} {H H' : Hp} (s : Same H H') : Keep a H H' := fun b o _ h => s b o h
theorem Keep.upd {a : Addr} {H H' : Hp} {o : HO} (k : Keep a H H') : Keep a H (upd H' a o) := fun b u n h => by
  rw [upd_ne n]
  exact k b u n h
theorem Keep.new {a p : Addr} {H H' : Hp} {o : HO} (k : Keep a H H') (hp : H' p = none) : Keep a H (L2.upd H' p o) := fun b u n h => by
  rw [upd_ne (ne_of_none (k b u n h) hp)]
  exact k b u n h
theorem Keep.seq {K : PySem.W.Frag} {a b : Addr} {H H' : Hp} {xs : List V} (k : Keep a H H') (n : b ≠ a) (h : SqL K H b xs) : SqL K H' b xs := by
  rcases h with (h | ⟨o, h⟩) | h
  · exact .inl (.inl (k _ _ n h))
  · exact .inl (.inr ⟨o, k _ _ n h⟩)
  · exact .inr h
theorem Keep.seqT {K : PySem.W.Frag} {a b : Addr} {H H' : Hp} {xs : List V} (k : Keep a H H') (n : b ≠ a) (h : SqT K H b xs) : SqT K H' b xs := by
  rcases h with (h | ⟨o, h⟩) | h
  · exact .inl (.inl (k _ _ n h))
  · exact .inl (.inr ⟨o, k _ _ n h⟩)
  · exact .inr h
/-- the drawing's source: three numbers; n bounds how often was drawn -/
def Src (H : Hp) (a : Addr) (n : Nat) : Prop := ∃ d s t : Int, H a = some (.lst [.int d, .int s, .int t]) ∧ 0 ≤ d ∧ 0 ≤ s ∧ s < 9223372036854775808 ∧ 0 ≤ t ∧ t ≤ (n : Int)
theorem Src.mono {H : Hp} {a : Addr} {n m : Nat} (h : Src H a n) (l : n ≤ m) : Src H a m := by
  obtain ⟨d, s, t, h1, h2, h3, h4, h5, h6⟩ := h
  exact ⟨d, s, t, h1, h2, h3, h4, h5, by omega⟩
theorem Src.new {H : Hp} {a p : Addr} {n : Nat} {o : HO} (h : Src H a n) (hp : H p = none) : Src (upd H p o) a n := by
  obtain ⟨d, s, t, h1, h2⟩ := h
  exact ⟨d, s, t, by rw [upd_ne (ne_of_none h1 hp)]; exact h1, h2⟩
theorem Src.ne {H : Hp} {a p : Addr} {n : Nat} (h : Src H a n) (hp : H p = none) : p ≠ a := by
  obtain ⟨d, s, t, h1, _⟩ := h
  exact (ne_of_none h1 hp).symm
abbrev big : Nat := 1000000000
/-! steps: a statement's reading by what its expression comes to -/
section
variable {te : TE} {c : TT} {u v t1 t2 : TS} {D : Ends} {σ : L2.St} {H : Hp} {i : Nat}
theorem sq_set (P : V → Hp → Prop) (h : ∀ Q : VK, (∀ x H', P x H' → Q x H') → te σ H Q) (k : ∀ x H', P x H' → u D (σ.set i (some x)) H') : tSeq (tAsg te (gName i)) u D σ H := h _ k
theorem s1_set (P : V → Hp → Prop) (h : ∀ Q : VK, (∀ x H', P x H' → Q x H') → te σ H Q) (k : ∀ x H', P x H' → D.nx (σ.set i (some x)) H') : (tAsg te (gName i)) D σ H := h _ k
theorem sq_par {j : Nat} {ta : TA} (P : V → V → Hp → Prop) (h : ∀ Q : List V → Hp → Prop, (∀ x y H', P x y H' → Q [x, y] H') → ta σ H Q) (k : ∀ x y H', P x y H' → u D ((σ.set i (some x)).set j (some y)) H') : tSeq (tPar i j ta) u D σ H := h _ fun x y H' p => ⟨x, y, rfl, k x y H' p⟩
theorem sq_do (P : V → Hp → Prop) (h : ∀ Q : VK, (∀ x H', P x H' → Q x H') → te σ H Q) (k : ∀ x H', P x H' → u D σ H') : tSeq (tDrop te) u D σ H := h _ k
theorem sq_if (P : Bool → Hp → Prop) (h : ∀ Q : Bool → Hp → Prop, (∀ b H', P b H' → Q b H') → c σ H Q) (kt : ∀ H', P true H' → t1 { D with nx := u D } σ H') (kf : ∀ H', P false H' → t2 { D with nx := u D } σ H') : tSeq (tIfS c t1 t2) u D σ H :=
  h _ fun b H' p => by
    cases b with
    | true => rw [if_pos rfl]; exact kt H' p
    | false => rw [if_neg Bool.false_ne_true]; exact kf H' p
theorem sq_if1 (P : Bool → Hp → Prop) (h : ∀ Q : Bool → Hp → Prop, (∀ b H', P b H' → Q b H') → c σ H Q) (kt : ∀ H', P true H' → t1 { D with nx := u D } σ H') (kf : ∀ H', P false H' → u D σ H') : tSeq (tIfS c t1 tNext) u D σ H := sq_if P h kt kf
theorem s1_if (P : Bool → Hp → Prop) (h : ∀ Q : Bool → Hp → Prop, (∀ b H', P b H' → Q b H') → c σ H Q) (kt : ∀ H', P true H' → t1 D σ H') (kf : ∀ H', P false H' → t2 D σ H') : (tIfS c t1 t2) D σ H :=
  h _ fun b H' p => by
    cases b with
    | true => rw [if_pos rfl]; exact kt H' p
    | false => rw [if_neg Bool.false_ne_true]; exact kf H' p
theorem s1_ret (P : V → Hp → Prop) (h : ∀ Q : VK, (∀ x H', P x H' → Q x H') → te σ H Q) (k : ∀ x H', P x H' → D.rt x H') : tRet te D σ H := h _ k
end
/-! promises -/
def spSource (K : PySem.W.Frag) : Sp := fun vs H Q _ => ∃ (a : Addr) (ns : List Int) (i : Int), vs = [.ref a, .int i] ∧ SqL K H a (ns.map V.int) ∧ ns.length ≤ 1000 ∧ 0 ≤ i ∧ i ≤ 1000 ∧
  ∀ p H', H p = none → Same H H' → Src H' p 0 → Q (.ref p) H'
def spDraw : Sp := fun vs H Q _ => ∃ (a : Addr) (n : Nat) (m : Int), vs = [.ref a, .int m] ∧ Src H a n ∧ n ≤ 1000000000 ∧ 0 < m ∧ m ≤ 1000000000 ∧
  ∀ H' i, Keep a H H' → Src H' a (n + 1) → 0 ≤ i → i < m → Q (.int i) H'
def spOf (K : PySem.W.Frag) : Sp := fun vs H Q _ => ∃ (a b : Addr) (n : Nat) (xs : List V), vs = [.ref a, .ref b] ∧ Src H a n ∧ n ≤ 1000000000 ∧ b ≠ a ∧ SqL K H b xs ∧ xs ≠ [] ∧ xs.length ≤ 100000 ∧
  ∀ H' x, Keep a H H' → Src H' a (n + 1) → x ∈ xs → Q x H'
def spNumber : Sp := fun vs H Q _ => ∃ (a : Addr) (n : Nat), vs = [.ref a] ∧ Src H a n ∧ n ≤ 900000000 ∧
  ∀ H' i, Keep a H H' → Src H' a (n + 8) → Q (.int i) H'
structure TxtD (K : PySem.W.Frag) (mg : Str → Option Value) (fS fD fO fN : Addr) : Prop where
  len : mg "len" = none
  abs : mg "abs" = none
  int : mg "int" = none
  range : mg "range" = none
  gS : mg "_law_source" = some (.ref fS)
  kS : PySem.W.keepIn K (.ref fS) = true
  gD : mg "_law_draw" = some (.ref fD)
  kD : PySem.W.keepIn K (.ref fD) = true
  gO : mg "_law_of" = some (.ref fO)
  kO : PySem.W.keepIn K (.ref fO) = true
  gN : mg "_law_number" = some (.ref fN)
  kN : PySem.W.keepIn K (.ref fN) = true
abbrev FnP (K : PySem.W.Frag) (x : Str) (st : Stmt) (f : Addr) (fd : FuncData) : Prop := FunD K x x (defArgs st) (defBody st) (defScope st) [] [] f fd
section
variable {P : Program} {w : World} {K : PySem.W.Frag} {mg : Str → Option Value} {base : Heap} {fS fD fO fN : Addr}
theorem scSource : FnScope ["script", "place", "cell", "digits"] ["script", "place"] (defScope sSource) := ⟨rfl, rfl, rfl, by decide +kernel, rfl, by decide +kernel, by decide +kernel⟩
theorem bool_ite {c : Prop} [Decidable c] {A B : Prop} (h1 : c → A) (h2 : ¬ c → B) : if decide c = true then A else B := by
  by_cases h : c
  · rw [decide_eq_true h, if_pos rfl]; exact h1 h
  · rw [decide_eq_false h, if_neg Bool.false_ne_true]; exact h2 h
theorem atI_get {α : Type} {xs : List α} {i : Int} (h0 : 0 ≤ i) (h1 : i < xs.length) : ∃ x, atI xs i = some x ∧ x ∈ xs := by
  have e : i.toNat < xs.length := by omega
  refine ⟨xs[i.toNat], ?_, List.getElem_mem e⟩
  unfold atI ixN
  rw [if_pos h0, if_pos h1]
  simp [e]
theorem fmod_src (x : Int) : 0 ≤ x.fmod 2305843009213693951 ∧ x.fmod 2305843009213693951 < 2305843009213693951 :=
  ⟨Int.fmod_nonneg_of_pos x (by decide), Int.fmod_lt_of_pos x (by decide)⟩
theorem ok_source {f : Addr} {fd : FuncData} (F : FnP K "_law_source" sSource f fd) (T : TxtD K mg fS fD fO fN) : FnOk P w K mg base CX0 1 f fd ["script", "place"] (spSource K) := by
  refine F.ok scSource (fun vs H Q E h => ?_) (fun cdv A outer s H vs Q E hr h => ?_)
  · obtain ⟨a, ns, i, rfl, _⟩ := h
    rfl
  · obtain ⟨a, ns, i, rfl, hS, hl, i0, i1, k⟩ := h
    refine ⟨_, PSs.nox (pss_cons (ps_set (i := 2) scSource.nd rfl (Or.inl rfl) (pe_ifExp (pt_cmpR op_lt (pv 1) (pe_callB call_len_seq (by rfl) T.len PySem.boot_len (pa_cons (pv 0) pa_nil)) (nomark _)) (pe_ix ix_list (pv 0) (pv 1) (fun _ _ => rfl)) pe_int))
      (pss_cons (ps_set (i := 3) scSource.nd rfl (Or.inl rfl) (pe_ifExp (pt_cmpR op_ge (pe_callB call_abs (by rfl) T.abs (by decide +kernel) (pa_cons (pv 2) pa_nil)) (pe_op op_pow pe_int pe_int) (nomark _)) (pe_callB call_abs (by rfl) T.abs (by decide +kernel) (pa_cons (pv 2) pa_nil)) pe_int))
      (pss_one (ps_ret (pe_lst (pa_cons (pv 3) (pa_cons (pe_op op_add (pe_op op_add (pe_op op_modN (pe_callTy call_int1 (by rfl) T.int (by decide +kernel) (pa_cons (pv 2) pa_nil)) pe_int) (pe_op op_mul pe_int (pv 1))) pe_int) (pa_cons pe_int pa_nil)))))))), ?_⟩
    refine sq_set (fun x H' => H = H' ∧ ∃ c : Int, x = .int c) (fun Q q => ?_) ?_
    · refine ⟨_, rfl, _, rfl, a, _, rfl, .inl hS, _, _, rfl, rfl, _, rfl, ?_⟩
      refine bool_ite (fun c => ?_) (fun c => ?_)
      · obtain ⟨x, hx, hm⟩ := atI_get (xs := ns.map V.int) i0 (by simpa using c)
        obtain ⟨z, _, rfl⟩ := List.mem_map.mp hm
        exact ⟨_, rfl, _, rfl, a, _, _, _, rfl, rfl, hS, hx, q _ _ ⟨rfl, z, rfl⟩⟩
      · exact q _ _ ⟨rfl, 0, rfl⟩
    rintro _ _ ⟨rfl, c, rfl⟩
    refine sq_set (fun x H' => H = H' ∧ ∃ d : Int, x = .int d ∧ 0 ≤ d) (fun Q q => ?_) ?_
    · refine ⟨_, rfl, _, rfl, _, _, rfl, rfl, ⟨by decide, by decide, by decide⟩, _, _, rfl, rfl, _, rfl, ?_⟩
      refine bool_ite (fun _ => ?_) (fun _ => ?_)
      · exact ⟨_, rfl, _, rfl, q _ _ ⟨rfl, _, rfl, by split <;> omega⟩⟩
      · exact q _ _ ⟨rfl, 0, rfl, by decide⟩
    rintro _ _ ⟨rfl, d, rfl, d0⟩
    refine ⟨_, rfl, _, rfl, .inl ⟨_, rfl, _, _, rfl, rfl, (by show (2305843009213693951 : Int) ≠ 0; decide), _, rfl, _, _, rfl, rfl, .inl ⟨by decide, by decide⟩, _, _, rfl, rfl, _, _, rfl, rfl, (by show 3 ≤ sizeLine; decide), fun p hp => ?_⟩⟩
    have hb := fmod_src c
    exact k p _ hp (fun b o h => by rw [upd_ne (ne_of_none h hp)]; exact h) ⟨d, _, 0, upd_same, d0, by omega, by omega, by decide, by decide⟩

theorem scDraw : FnScope ["source", "many", "digit"] ["source", "many"] (defScope sDraw) := ⟨rfl, rfl, rfl, by decide +kernel, rfl, by decide +kernel, by decide +kernel⟩
theorem ok_draw {f : Addr} {fd : FuncData} (F : FnP K "_law_draw" sDraw f fd) (T : TxtD K mg fS fD fO fN) : FnOk P w K mg base CX0 1 f fd ["source", "many"] spDraw := by
  refine F.ok scDraw (fun vs H Q E h => ?_) (fun cdv A outer s H vs Q E hr h => ?_)
  · obtain ⟨a, n, m, rfl, _⟩ := h
    rfl
  · obtain ⟨a, n, m, rfl, ⟨d, s', t, hA, d0, s0, s1, t0, t1⟩, hn, m0, m1, k⟩ := h
    have hu := hu_of hr
    refine ⟨_, PSs.nox (pss_cons (ps_if (pt_cmpR op_gt (pe_ix ix_list (pv 0) pe_int (fun _ _ => rfl)) pe_int (nomark _))
        (pss_cons (ps_set (i := 2) scDraw.nd rfl (Or.inl rfl) (pe_op op_modN (pe_callTy call_int1 (by rfl) T.int (by decide +kernel) (pa_cons (pe_ix ix_list (pv 0) pe_int (fun _ _ => rfl)) pa_nil)) (pv 1)))
          (pss_cons (ps_asg (pe_op op_fdivN (pe_ix ix_list (pv 0) pe_int (fun _ _ => rfl)) (pv 1)) (pg_sub (pv 0) pe_int set_list)) (pss_one (ps_ret (pv 2))))) pss_nil)
      (pss_cons (ps_asg (pe_op op_add (pe_ix ix_list (pv 0) pe_int (fun _ _ => rfl)) pe_int) (pg_sub (pv 0) pe_int set_list))
      (pss_cons (ps_asg (pe_op op_modN (pe_callTy call_int1 (by rfl) T.int (by decide +kernel) (pa_cons (pe_op op_add (pe_op op_add (pe_op op_mul (pe_ix ix_list (pv 0) pe_int (fun _ _ => rfl)) pe_int) (pe_op op_mul (pe_op op_mul pe_int (pe_ix ix_list (pv 0) pe_int (fun _ _ => rfl))) (pe_ix ix_list (pv 0) pe_int (fun _ _ => rfl)))) pe_int) pa_nil)) pe_int) (pg_sub (pv 0) pe_int set_list))
      (pss_one (ps_ret (pe_op op_modN (pe_callTy call_int1 (by rfl) T.int (by decide +kernel) (pa_cons (pe_op op_fdivN (pe_op op_modN (pe_callTy call_int1 (by rfl) T.int (by decide +kernel) (pa_cons (pe_op op_add (pe_op op_pow (pe_op op_fdivN (pe_ix ix_list (pv 0) pe_int (fun _ _ => rfl)) pe_int) pe_int) (pe_op op_mul pe_int (pe_ix ix_list (pv 0) pe_int (fun _ _ => rfl)))) pa_nil)) pe_int) pe_int) pa_nil)) (pv 1))))))), ?_⟩
    have zA : ∀ (r : Int), 0 ≤ r.fmod m ∧ r.fmod m < m := fun r => ⟨Int.fmod_nonneg_of_pos r m0, Int.fmod_lt_of_pos r m0⟩
    have mz : m ≠ 0 := by omega
    have md : m ≠ 0 ∧ m.natAbs < 1073741824 := ⟨mz, by omega⟩
    refine sq_if (fun b H' => H = H' ∧ b = decide (0 < d)) (fun Q q => ?_) ?_ ?_
    · exact ⟨_, rfl, a, _, _, _, rfl, rfl, SqL.of hA, rfl, _, _, rfl, rfl, _, rfl, q _ _ ⟨rfl, rfl⟩⟩
    · rintro _ ⟨rfl, c⟩
      refine ⟨_, rfl, a, _, _, _, rfl, rfl, SqL.of hA, rfl, .inl ⟨_, rfl, _, rfl, _, _, rfl, rfl, mz, ?_⟩⟩
      refine ⟨_, rfl, a, _, _, _, rfl, rfl, SqL.of hA, rfl, _, rfl, _, _, rfl, rfl, md, _, rfl, a, _, _, _, rfl, rfl, hA, rfl, _, rfl, ?_⟩
      exact k _ _ (Keep.refl H).upd ⟨_, _, _, upd_same, Int.fdiv_nonneg d0 (by omega), s0, s1, t0, by omega⟩ (zA d).1 (zA d).2
    · rintro _ ⟨rfl, c⟩
      refine ⟨_, rfl, a, _, _, _, rfl, rfl, SqL.of hA, rfl, _, _, rfl, rfl, _, rfl, a, _, _, _, rfl, rfl, hA, rfl, ?_⟩
      refine ⟨_, rfl, a, _, _, _, rfl, rfl, SqL.of upd_same, rfl, _, _, rfl, rfl, .inl ⟨by show -(2 ^ 64) < s'; omega, by show s' < 2 ^ 64; omega⟩, _, rfl, a, _, _, _, rfl, rfl, SqL.of upd_same, rfl, _, _, rfl, rfl, .inl ⟨by decide, by decide⟩,
        _, rfl, a, _, _, _, rfl, rfl, SqL.of upd_same, rfl, _, _, rfl, rfl, .inr ⟨by show -(2 ^ 64) < t + 1; omega, by show t + 1 < 2 ^ 64; omega⟩, _, _, rfl, rfl, _, _, rfl, rfl, .inl ⟨_, rfl, _, _, rfl, rfl, (by show (2305843009213693951 : Int) ≠ 0; decide), _, rfl, a, _, _, _, rfl, rfl, upd_same, rfl, ?_⟩⟩
      have hb := fmod_src (s' * 69621 + 32452843 * (t + 1) * (t + 1) + 40009)
      have hq : ∀ z : Int, 0 ≤ z ∧ z < 2305843009213693951 → (z.fdiv 256).natAbs < 2 ^ 64 := fun z hz => by
        rw [Int.fdiv_eq_ediv_of_nonneg _ (by decide)]
        omega
      refine ⟨_, rfl, a, _, _, _, rfl, rfl, SqL.of upd_same, rfl, _, _, rfl, rfl, ⟨by decide, by decide⟩, _, _, rfl, rfl, ⟨by decide, by decide, hq _ hb⟩, _, rfl, a, _, _, _, rfl, rfl, SqL.of upd_same, rfl, _, _, rfl, rfl, .inl ⟨by decide, by decide⟩, _, _, rfl, rfl,
        .inl ⟨_, rfl, _, _, rfl, rfl, (by show (2305843009213693921 : Int) ≠ 0; decide), _, _, rfl, rfl, ⟨by decide, by decide⟩, .inl ⟨_, rfl, _, rfl, _, _, rfl, rfl, mz, ?_⟩⟩⟩
      refine k _ _ ((Keep.refl H).upd.upd) ⟨_, _, _, upd_same, d0, by omega, by omega, by omega, by omega⟩ (zA _).1 (zA _).2

/-! a def of the top, called by its name -/
def DefIs (K : PySem.W.Frag) (mg : Str → Option Value) (x : Str) (st : Stmt) : Prop := ∃ f fd, mg x = some (.ref f) ∧ FnP K x st f fd
structure Cal (P : Program) (w : World) (K : PySem.W.Frag) (mg : Str → Option Value) (base : Heap) (CX : CXT) (x : Str) (k : Nat) (ps : List Str) (sp : Sp) : Prop where
  ex : ∃ f fd, mg x = some (.ref f) ∧ PySem.W.keepIn K (.ref f) = true ∧ FnOk P w K mg base CX k f fd ps sp ∧ Binds K fd ps []
end
section
variable {X : Cx} {x : Str} {p pos : Pos} {e : Expr} {es : List Expr} {t : TA} {k : Nat} {ps : List Str} {sp : Sp}
theorem pe_cal (c : Cal X.prog X.w X.K X.mg X.base CX0 x k ps sp) (hr : Room k X.A) (ha : PA X (e :: es) t) (hg : Gl X x := by rfl) (hdb : (x == ("__debug__" : Str)) = false := by decide)
    (he : starEach (e :: es) X.env = (false, eval e X.env) :: starEach es X.env := by rfl) (hpl : (backTo pos (starEach es X.env)).any (·.1) = false := by rfl) :
    PE X (.Call (.Name x p) (e :: es) [] pos) (tCall sp [] E0 t) := by
  obtain ⟨f, fd, hm, hk, F, b⟩ := c.ex
  exact pe_call F hr hg hm hk b .nil pass0 ha hdb he hpl
end
section
variable {P : Program} {w : World} {K : PySem.W.Frag} {mg : Str → Option Value} {base : Heap} {fS fD fO fN : Addr}
theorem cal_draw (T : TxtD K mg fS fD fO fN) (D : DefIs K mg "_law_draw" sDraw) : Cal P w K mg base CX0 "_law_draw" 1 ["source", "many"] spDraw := by
  obtain ⟨f, fd, hm, F⟩ := D
  exact ⟨f, fd, hm, F.kp, ok_draw F T, F.bindsN fun _ _ _ _ _ _ us hl => match us, hl with | [_, _], _ => rfl⟩
theorem scOf : FnScope ["source", "some"] ["source", "some"] (defScope sOf) := ⟨rfl, rfl, rfl, by decide +kernel, rfl, by decide +kernel, by decide +kernel⟩
theorem ok_of {f : Addr} {fd : FuncData} (F : FnP K "_law_of" sOf f fd) (T : TxtD K mg fS fD fO fN) (cD : Cal P w K mg base CX0 "_law_draw" 1 ["source", "many"] spDraw) : FnOk P w K mg base CX0 2 f fd ["source", "some"] (spOf K) := by
  refine F.ok scOf (fun vs H Q E h => ?_) (fun cdv A outer s H vs Q E hr h => ?_)
  · obtain ⟨a, b, n, xs, rfl, _⟩ := h
    rfl
  · obtain ⟨a, b, n, xs, rfl, hs, hn, ba, hb, x0, x1, k⟩ := h
    refine ⟨_, PSs.nox (pss_one (ps_ret (pe_ix ix_list (pv 1) (pe_cal cD hr (pa_cons (pv 0) (pa_cons (pe_callB call_len_seq (by rfl) T.len PySem.boot_len (pa_cons (pv 1) pa_nil)) pa_nil))) (fun _ _ => rfl)))), ?_⟩
    have xl : 0 < xs.length := List.length_pos_iff.mpr x0
    refine ⟨_, rfl, _, rfl, _, rfl, b, _, rfl, .inl hb, a, n, _, rfl, hs, hn, by omega, by omega, fun H' i kp sr i0 i1 => ?_⟩
    obtain ⟨x, hx, hm⟩ := atI_get i0 i1
    exact ⟨b, _, _, _, rfl, rfl, kp.seq ba hb, hx, k _ _ kp sr hm⟩
theorem scNumber : FnScope ["source", "kind", "found", "turn"] ["source"] (defScope sNumber) := ⟨rfl, rfl, rfl, by decide +kernel, rfl, by decide +kernel, by decide +kernel⟩
theorem ok_number {f : Addr} {fd : FuncData} (F : FnP K "_law_number" sNumber f fd) (T : TxtD K mg fS fD fO fN) (cD : Cal P w K mg base CX0 "_law_draw" 1 ["source", "many"] spDraw) : FnOk P w K mg base CX0 2 f fd ["source"] spNumber := by
  refine F.ok scNumber (fun vs H Q E h => ?_) (fun cdv A outer s H vs Q E hr h => ?_)
  · obtain ⟨a, n, rfl, _⟩ := h
    rfl
  · obtain ⟨a, n, rfl, hs, hn, k⟩ := h
    refine ⟨_, PSs.nox (pss_cons (ps_par (i := 1) (j := 2) (by rfl) scNumber.nd rfl rfl (by decide) rfl rfl (pa_cons (pe_cal cD hr (pa_cons (pv 0) (pa_cons pe_int pa_nil))) (pa_cons pe_int pa_nil)) (by rfl))
      (pss_cons (ps_if (pt_cmpR op_lt (pv 1) pe_int (nomark _)) (pss_one (ps_ret (pe_op op_sub (pe_cal cD hr (pa_cons (pv 0) (pa_cons pe_int pa_nil))) pe_int))) pss_nil)
      (pss_cons (ps_for PassesOwn.never rfl (pi_range1 rfl T.range (pa_cons (pe_op op_add pe_int (pe_cal cD hr (pa_cons (pv 0) (pa_cons pe_int pa_nil)))) pa_nil)) (pg_name (i := 3) scNumber.nd rfl (Or.inl rfl))
        (pss_one (ps_set (i := 2) scNumber.nd rfl (Or.inl rfl) (pe_op op_add (pe_op op_mul (pv 2) (pe_op op_pow pe_int pe_int)) (pe_cal cD hr (pa_cons (pv 0) (pa_cons (pe_ifExp (pt_cmpR op_gt (pv 3) pe_int (nomark _)) (pe_op op_pow pe_int pe_int) pe_int) pa_nil)))))))
      (pss_one (ps_ret (pe_ifExp (pt_cmpR op_eq (pv 1) pe_int (nomark _)) (pv 2) (pe_un un_neg (pv 2)))))))), ?_⟩
    refine sq_par (fun x y H' => ∃ kind : Int, x = .int kind ∧ y = .int 0 ∧ Keep a H H' ∧ Src H' a (n + 1)) (fun Q q => ⟨_, rfl, a, n, _, rfl, hs, by omega, by decide, by decide, fun H1 kind k1 s1 i0 i1 => q _ _ _ ⟨kind, rfl, rfl, k1, s1⟩⟩) ?_
    rintro _ _ H1 ⟨kind, rfl, rfl, k1, s1⟩
    refine sq_if (fun b H' => H1 = H' ∧ b = decide (kind < 2)) (fun Q q => ⟨_, rfl, _, _, rfl, rfl, _, rfl, q _ _ ⟨rfl, rfl⟩⟩) ?_ ?_
    · rintro _ ⟨rfl, _⟩
      exact ⟨_, rfl, a, _, _, rfl, s1, by omega, by decide, by decide, fun H2 i k2 s2 _ _ => ⟨_, _, rfl, rfl, k _ _ (k1.trans k2) (s2.mono (by omega))⟩⟩
    · rintro _ ⟨rfl, _⟩
      refine ⟨_, rfl, a, _, _, rfl, s1, by omega, by decide, by decide, fun H2 i k2 s2 j0 j1 => ⟨_, _, rfl, rfl, _, rfl, by omega, by omega, ?_⟩⟩
      refine for_range (lo := 0) (n := (1 + i).toNat) (fun j σ H' => ∃ (z : Int) (v : Option V), σ = [some (.ref a), some (.int kind), some (.int z), v] ∧ Keep a H H' ∧ Src H' a (n + 2 + j)) ⟨0, _, rfl, k1.trans k2, s2⟩ ?_ ?_
      · rintro j σ H' hj ⟨z, v, rfl, k3, s3⟩
        refine s1_set (fun x H'' => ∃ y : Int, x = .int y ∧ Keep a H H'' ∧ Src H'' a (n + 2 + (j + 1))) (fun Q q => ?_) ?_
        · refine ⟨_, rfl, _, _, rfl, rfl, ⟨by decide, by decide, by decide⟩, _, _, rfl, rfl, .inr ⟨by decide, by decide⟩, _, rfl, _, rfl, _, _, rfl, rfl, _, rfl, ?_⟩
          have hj2 : n + 2 + j ≤ 1000000000 := by omega
          refine bool_ite (fun _ => ?_) (fun _ => ?_)
          · exact ⟨_, _, rfl, rfl, ⟨by decide, by decide, by decide⟩, a, _, _, rfl, s3, hj2, by decide, by decide, fun H4 i4 k4 s4 _ _ => ⟨_, _, rfl, rfl, q _ _ ⟨_, rfl, k3.trans k4, s4⟩⟩⟩
          · exact ⟨a, _, _, rfl, s3, hj2, by decide, by decide, fun H4 i4 k4 s4 _ _ => ⟨_, _, rfl, rfl, q _ _ ⟨_, rfl, k3.trans k4, s4⟩⟩⟩
        · rintro _ H4 ⟨y, rfl, k4, s4⟩
          exact ⟨y, _, rfl, k4, s4⟩
      · rintro σ H' ⟨z, v, rfl, k3, s3⟩
        refine ⟨_, rfl, rfl, _, rfl, ?_⟩
        have hs' : Src H' a (n + 8) := s3.mono (by omega)
        refine bool_ite (fun _ => ?_) (fun _ => ?_)
        · exact ⟨_, rfl, k _ _ k3 hs'⟩
        · exact ⟨_, rfl, _, rfl, k _ _ k3 hs'⟩
end
end Lw

set_option Elab.async false
set_option linter.all false
set_option maxRecDepth 100000
set_option maxHeartbeats 2000000
namespace Lw
open PySem PySem.Spec PyProof.Rows L2
/-! words -/
def IsWord (z : Str) : Prop := 1 ≤ z.length ∧ z.length ≤ 8 ∧ ∀ c ∈ z.cps.toList, 97 ≤ c ∧ c ≤ 122
def abc : List Nat := [97, 98, 99, 100, 101, 102, 103, 104, 105, 106, 107, 108, 109, 110, 111, 112, 113, 114, 115, 116, 117, 118, 119, 120, 121, 122]
def sign (c : Nat) : Str := ⟨#[c]⟩
abbrev letters : Str := "abcdefghijklmnopqrstuvwxyz"
theorem letters_eq : letters = ⟨abc.toArray⟩ := by decide +kernel
theorem abc_le {c : Nat} (h : c ∈ abc) : 97 ≤ c ∧ c ≤ 122 := by
  have h2 : ∀ c ∈ abc, 97 ≤ c ∧ c ≤ 122 := by decide
  exact h2 c h
theorem tl_sign (c : Nat) : (sign c).cps.toList = [c] := rfl
theorem joinL_flat : ∀ l : List (List Nat), TL.joinL [] l = l.flatten
  | [] => rfl
  | [p] => by simp [TL.joinL]
  | p :: q :: r => by
    show p ++ ([] ++ TL.joinL [] (q :: r)) = _
    rw [joinL_flat (q :: r)]
    simp
theorem join_signs (e : Str) (he : e.cps = #[]) (cs : List Nat) : (Txt.join e (cs.map sign)).cps.toList = cs := by
  rw [TL.join_eq]
  have h : (Str.join e (cs.map sign)).cps.toList = TL.joinL e.cps.toList ((cs.map sign).map fun z => z.cps.toList) := TL.tl_join e (cs.map sign)
  rw [h, he]
  show TL.joinL [] _ = _
  rw [joinL_flat, List.map_map]
  clear h
  induction cs with
  | nil => rfl
  | cons c r ih =>
    rw [List.map_cons, List.flatten_cons, ih]
    rfl
theorem nodup_le : ∀ {l ts : List Str}, l.Nodup → (∀ x ∈ l, x ∈ ts) → l.length ≤ ts.length
  | [], _, _, _ => Nat.zero_le _
  | x :: l, ts, hn, hs => by
    have hx : x ∈ ts := hs x List.mem_cons_self
    have hn2 := List.nodup_cons.mp hn
    have ih := nodup_le (l := l) (ts := ts.erase x) hn2.2 fun y hy => by
      have ne : y ≠ x := fun e => hn2.1 (e ▸ hy)
      exact (List.mem_erase_of_ne ne).mpr (hs y (List.mem_cons_of_mem _ hy))
    rw [List.length_erase_of_mem hx] at ih
    have pos : 0 < ts.length := List.length_pos_of_mem hx
    simp only [List.length_cons]
    omega
def cand (w : Str) (c : Nat) : Str := cutS (sign c ++ w) none (some 8)
theorem tl_app (a b : Str) : (a ++ b).cps.toList = a.cps.toList ++ b.cps.toList := by
  rw [PySem.Str.cps_append, Array.toList_append]
theorem len_tl (a : Str) : a.length = a.cps.toList.length := by simp [Str.length]
theorem cand_tl (w : Str) (c : Nat) : (cand w c).cps.toList = (c :: w.cps.toList).take 8 := by
  unfold cand cutS
  have e : (sign c ++ w).cps.toList = c :: w.cps.toList := tl_app _ _
  have l : (sign c ++ w).length = w.cps.toList.length + 1 := by rw [len_tl, e]; rfl
  rw [e, l]
  have h8 : HT.sIx (w.cps.toList.length + 1) (w.cps.toList.length + 1) (some 8) = min 8 (w.cps.toList.length + 1) := HT.sIx_nat _ _ 8
  rw [h8]
  show (List.take (min 8 (w.cps.toList.length + 1) - 0) (List.drop 0 (c :: w.cps.toList))) = _
  rw [Nat.sub_zero, List.drop_zero]
  have : (c :: w.cps.toList).length = w.cps.toList.length + 1 := rfl
  rw [← this, ← List.take_eq_take_min]
theorem cand_word {w : Str} {c : Nat} (h : IsWord w) (hc : c ∈ abc) : IsWord (cand w c) := by
  have e := cand_tl w c
  obtain ⟨h1, h2, h3⟩ := h
  rw [len_tl] at h1 h2
  refine ⟨?_, ?_, fun d hd => ?_⟩
  · rw [len_tl, e]; simp
  · rw [len_tl, e]; simp; omega
  · rw [e] at hd
    rcases List.mem_cons.mp (List.mem_of_mem_take hd) with q | q
    · rw [q]; exact abc_le hc
    · exact h3 d q
theorem cand_inj {w : Str} {c d : Nat} (h : cand w c = cand w d) : c = d := by
  have e : (cand w c).cps.toList = (cand w d).cps.toList := by rw [h]
  rw [cand_tl, cand_tl] at e
  simpa using e
theorem free_some (w : Str) (ts : List Str) (h : ts.length ≤ 25) : abc.filter (fun c => !decide (cand w c ∈ ts)) ≠ [] := by
  intro e
  have ha : ∀ c ∈ abc, cand w c ∈ ts := fun c hc => by
    have := List.filter_eq_nil_iff.mp e c hc
    simpa using this
  have nd : (abc.map (cand w)).Nodup := by
    have h0 : abc.Nodup := by decide
    exact List.Pairwise.map _ (fun a b ne q => ne (cand_inj q)) h0
  have l := nodup_le nd (ts := ts) (fun x hx => by
    obtain ⟨c, hc, rfl⟩ := List.mem_map.mp hx
    exact ha c hc)
  rw [List.length_map] at l
  have : abc.length = 26 := rfl
  omega
theorem inV_str (w : Str) (ts : List Str) : inV (.str w) (ts.map V.str) = decide (w ∈ ts) := by
  unfold inV
  rw [List.any_map]
  apply Bool.eq_iff_iff.mpr
  simp only [List.any_eq_true, Function.comp, decide_eq_true_eq]
  constructor
  · rintro ⟨y, hy, e⟩
    have e2 : (y == w) = true := e
    exact (eq_of_beq e2) ▸ hy
  · intro h
    exact ⟨w, h, beq_self_eq_true w⟩
theorem flat_strs (ts : List Str) : (ts.map V.str).all flatV = true := by
  rw [List.all_map]
  exact List.all_eq_true.mpr fun _ _ => rfl
end Lw

set_option Elab.async false
set_option linter.all false
set_option maxRecDepth 100000
set_option maxHeartbeats 2000000
namespace Lw
open PySem PySem.Spec PyProof.Rows L2
abbrev sWord : Stmt := top 45
abbrev nWord : List Str := ["source", "taken", "letters", "word", "free", "turn", "letter"]
def spWord (K : PySem.W.Frag) : Sp := fun vs H Q _ => ∃ (a b : Addr) (n : Nat) (ts : List Str), vs = [.ref a, .ref b] ∧ Src H a n ∧ n ≤ 900000000 ∧ b ≠ a ∧ SqL K H b (ts.map V.str) ∧ ts.length ≤ 25 ∧
  ∀ H' w, Keep a H H' → Src H' a (n + 10) → IsWord w → w ∉ ts → Q (.str w) H'
section
variable {P : Program} {w : World} {K : PySem.W.Frag} {mg : Str → Option Value} {base : Heap} {fS fD fO fN : Addr}
theorem scWord : FnScope nWord ["source", "taken"] (defScope sWord) := ⟨rfl, rfl, rfl, by decide +kernel, rfl, by decide +kernel, by decide +kernel⟩
theorem str_notmem {z : Str} {ts : List Str} {A B : Prop} (h1 : z ∉ ts → A) (h2 : z ∈ ts → B) : if (if true = true then !inV (.str z) (ts.map V.str) else inV (.str z) (ts.map V.str)) = true then A else B := by
  rw [if_pos rfl, inV_str]
  by_cases h : z ∈ ts
  · rw [decide_eq_true h, Bool.not_true, if_neg Bool.false_ne_true]; exact h2 h
  · rw [decide_eq_false h, Bool.not_false, if_pos rfl]; exact h1 h
theorem letters_cps : letters.cps = abc.toArray := by rw [letters_eq]
theorem abc_at {i : Int} (h0 : 0 ≤ i) (h1 : i < 26) : ∃ c, atI letters.cps.toList i = some c ∧ c ∈ abc := by
  rw [letters_cps]
  exact atI_get (xs := abc) h0 (by show i < 26; exact h1)
theorem ok_word {f : Addr} {fd : FuncData} (F : FnP K "_law_word" sWord f fd) (T : TxtD K mg fS fD fO fN) (cD : Cal P w K mg base CX0 "_law_draw" 1 ["source", "many"] spDraw) : FnOk P w K mg base CX0 2 f fd ["source", "taken"] (spWord K) := by
  refine F.ok scWord (fun vs H Q E h => ?_) (fun cdv A outer s H vs Q E hr h => ?_)
  · obtain ⟨a, b, n, ts, rfl, _⟩ := h
    rfl
  · obtain ⟨a, b, n, ts, rfl, hs, hn, ba, hb, hts, k⟩ := h
    refine ⟨_, PSs.nox (pss_cons (ps_set (i := 2) scWord.nd rfl (Or.inr rfl) pe_str)
      (pss_cons (ps_set (i := 3) scWord.nd rfl (Or.inr rfl) (pe_join pe_str (pe_lc (own := [("turn", 5)]) (g := gName 5) (tt := tYes) rfl scWord.nd (pi_range1 rfl T.range (pa_cons (pe_op op_add pe_int (pe_cal cD hr (pa_cons (pv 0) (pa_cons pe_int pa_nil)))) pa_nil))
        (blkOk_by (N := nWord) (sc := defScope sWord) (by decide +kernel)) (fun _ _ _ _ _ => pg_name (i := 5) scWord.nd rfl (Or.inl rfl)) (fun _ _ _ _ _ => pts_nil) (fun _ _ _ _ _ => pe_ix ix_str (pv 2) (pe_cal cD hr (pa_cons (pv 0) (pa_cons pe_int pa_nil))) (fun _ _ => rfl)))))
      (pss_cons (ps_if (pt_cmpR op_notIn_seq (pv 3) (pv 1) rfl) (pss_one (ps_ret (pv 3))) pss_nil)
      (pss_cons (ps_setLc (i := 4) (own := [("letter", 6)]) (g := gName 6) (tt := tTest (tOp (rIn K true) (tSl rSlS (tOp _ (tVar 6) (tVar 3)) tNoPart (tPart (tC (.int 8)))) (tVar 1))) rfl scWord.nd rfl rfl (sw_true rfl rfl rfl (by decide +kernel)) (pi_str (pv 2)) (blkOk_by (N := nWord) (sc := defScope sWord) (by decide +kernel))
        (fun _ _ _ _ _ => pg_name (i := 6) scWord.nd rfl (Or.inl rfl)) (fun _ _ _ _ _ => pts_one (pt_cmpR op_notIn_seq (pe_slice sl_str (pe_op op_add_str (pv 6) (pv 3)) po_none (po_some pe_int)) (pv 1) rfl)) (fun _ _ _ _ _ => pv 6))
      (pss_one (ps_ret (pe_slice sl_str (pe_op op_add_str (pe_ix ix_list (pv 4) pe_int (fun _ _ => rfl)) (pv 3)) po_none (po_some pe_int)))))))), ?_⟩
    refine sq_set (fun x H' => H = H' ∧ x = .str letters) (fun Q q => q _ _ ⟨rfl, rfl⟩) ?_
    rintro _ _ ⟨rfl, rfl⟩
    refine sq_set (fun x H' => ∃ z, x = .str z ∧ IsWord z ∧ Keep a H H' ∧ Src H' a (n + 10)) (fun Q q => ?_) ?_
    · refine ⟨⟨_, rfl⟩, _, rfl, a, n, _, rfl, hs, by omega, by decide, by decide, fun H1 i k1 s1 i0 i1 => ⟨_, _, rfl, rfl, _, rfl, by omega, by omega, fun D hD => ?_⟩⟩
      have Da : D ≠ a := s1.ne hD
      refine lc_range (lo := 0) (n := (1 + i).toNat) (fun j H' => ∃ cs : List Nat, H' D = some (.lst ((cs.map sign).map V.str)) ∧ cs.length = j ∧ (∀ c ∈ cs, c ∈ abc) ∧ Keep a H H' ∧ Src H' a (n + 1 + j))
        ⟨[], upd_same, rfl, fun _ h => (List.not_mem_nil h).elim, k1.new hD, s1.new hD⟩ ?_ ?_
      · rintro j H' hj ⟨cs, hd, hl, ha, k2, s2⟩
        refine ⟨rfl, _, rfl, _, rfl, a, _, _, rfl, s2, by omega, by decide, by decide, fun H3 i3 k3 s3 j0 j1 => ?_⟩
        obtain ⟨c, hc, hm⟩ := abc_at j0 j1
        have hd3 := k3 _ _ Da hd
        refine ⟨_, _, c, rfl, rfl, (by show letters.cps.size ≤ sizeLine; rw [letters_cps]; decide), hc, _, hd3, by simp only [List.length_map, hl]; exact small1000 (by omega), cs ++ [c], ?_, by simp [hl], fun x hx => ?_, ?_, ?_⟩
        · rw [upd_same]; simp [sign]
        · rcases List.mem_append.mp hx with h | h
          · exact ha x h
          · rw [List.mem_singleton.mp h]; exact hm
        · intro b' o nb ho
          have e := k3 b' o nb (k2 b' o nb ho)
          by_cases hbD : b' = D
          · exfalso
            rw [hbD] at ho nb
            have := k1 D o nb ho
            rw [hD] at this
            cases this
          · rw [upd_ne hbD]; exact e
        · obtain ⟨d, s', t, h1, h2⟩ := s3
          exact ⟨d, s', t, by rw [upd_ne Da.symm]; exact h1, h2⟩
      · rintro H' ⟨cs, hd, hl, ha, k2, s2⟩
        refine ⟨_, D, cs.map sign, rfl, rfl, .inl (SqL.of hd), ?_, ?_⟩
        · have e1 : ((cs.map sign).map (·.length)).sum = cs.length := by
            clear hd hl ha
            induction cs with
            | nil => rfl
            | cons c r ih => simp only [List.map_cons, List.sum_cons, ih, List.length_cons]; show 1 + _ = _; omega
          have e2 : (PySem.Str.ofString "").length = 0 := by decide +kernel
          rw [e1, e2]
          omega
        · have e : (Txt.join (PySem.Str.ofString "") (cs.map sign)).cps.toList = cs := join_signs _ (by decide +kernel) cs
          refine q _ _ ⟨_, rfl, ⟨?_, ?_, ?_⟩, k2, s2.mono (by omega)⟩
          · rw [len_tl, e]; omega
          · rw [len_tl, e]; omega
          · rw [e]; exact fun c hc => abc_le (ha c hc)
    rintro _ H1 ⟨z, rfl, hz, k1, s1⟩
    have hb1 := k1.seq ba hb
    refine sq_if1 (fun b' H' => H1 = H' ∧ (b' = true → z ∉ ts)) (fun Q q => ?_) ?_ ?_
    · refine ⟨_, rfl, _, rfl, b, _, rfl, .inl hb1, rfl, flat_strs ts, _, rfl, q _ _ ⟨rfl, fun h => ?_⟩⟩
      have h2 : (!inV (.str z) (ts.map V.str)) = true := h
      rw [inV_str] at h2
      simpa using h2
    · rintro _ ⟨rfl, hnt⟩
      exact ⟨_, rfl, k _ _ k1 s1 hz (hnt rfl)⟩
    rintro _ ⟨rfl, _⟩
    refine sq_set (fun x H' => ∃ D, x = .ref D ∧ D ≠ a ∧ H' D = some (.lst (((abc.filter (fun c => !decide (cand z c ∈ ts))).map sign).map V.str)) ∧ Keep a H H' ∧ Src H' a (n + 10)) (fun Q q => ?_) ?_
    · refine ⟨_, rfl, _, rfl, fun D hD => ?_⟩
      have Da : D ≠ a := s1.ne hD
      refine lc_it walk_str (fun j H' => H' D = some (.lst ((((abc.take j).filter (fun c => !decide (cand z c ∈ ts))).map sign).map V.str)) ∧ Keep a H H' ∧ Src H' a (n + 10))
        ⟨upd_same, k1.new hD, s1.new hD⟩ (fun _ _ _ _ => trivial) ?_ ?_
      · rintro j x H' _ hj ⟨hd, k2, s2⟩ ⟨rfl, c, hc, rfl⟩
        have hc2 : abc[j]? = some c := by
          rw [letters_cps] at hc
          simpa using hc
        have ht : abc.take (j + 1) = abc.take j ++ [c] := by rw [List.take_add_one, hc2]; rfl
        refine ⟨rfl, _, rfl, _, rfl, _, _, rfl, rfl, ?_, _, rfl, _, rfl, ?_, _, rfl, b, _, rfl, .inl (k2.seq ba hb), rfl, flat_strs ts, _, rfl, ?_⟩
        · have := hz.2.1
          show 1 + z.length ≤ sizeLine
          exact Nat.le_trans (show 1 + z.length ≤ 9 by omega) (by decide)
        · show (sign c ++ z).length ≤ sizeLine
          have := hz.2.1
          rw [len_tl] at this
          rw [len_tl, tl_app]
          simp only [List.length_append, tl_sign, List.length_singleton]
          exact Nat.le_trans (show 1 + z.cps.toList.length ≤ 9 by omega) (by decide)
        · refine str_notmem (fun h => ?_) (fun h => ?_)
          · refine ⟨_, rfl, _, hd, ?_, ?_, ?_, ?_⟩
            · simp only [List.length_map]
              refine Nat.lt_of_le_of_lt (List.length_filter_le _ _) (Nat.lt_of_le_of_lt (List.length_take_le' _ _) (by decide))
            · rw [upd_same, ht, List.filter_append, List.map_append, List.map_append]
              have e : [c].filter (fun c => !decide (cand z c ∈ ts)) = [c] := by
                have h2 : cand z c ∉ ts := h
                simp [h2]
              rw [e]
              rfl
            · intro b' o nb ho
              by_cases hbD : b' = D
              · exfalso
                rw [hbD] at ho nb
                have := k1 D o nb ho
                rw [hD] at this
                cases this
              · rw [upd_ne hbD]; exact k2 b' o nb ho
            · obtain ⟨d, s', t, h1, h2⟩ := s2
              exact ⟨d, s', t, by rw [upd_ne Da.symm]; exact h1, h2⟩
          · refine ⟨?_, k2, s2⟩
            rw [ht, List.filter_append]
            have e : [c].filter (fun c => !decide (cand z c ∈ ts)) = [] := by
              have h2 : cand z c ∈ ts := h
              simp [h2]
            rw [e, List.append_nil]
            exact hd
      · rintro H' ⟨hd, k2, s2⟩
        refine q _ _ ⟨D, rfl, Da, ?_, k2, s2⟩
        have e : abc.take letters.cps.size = abc := by rw [letters_cps]; rfl
        rw [e] at hd
        exact hd
    rintro _ H2 ⟨D, rfl, Da, hd, k2, s2⟩
    have hne := free_some z ts hts
    obtain ⟨c, r, hcr⟩ := List.exists_cons_of_ne_nil hne
    have hc : c ∈ abc.filter (fun c => !decide (cand z c ∈ ts)) := by rw [hcr]; exact List.mem_cons_self
    obtain ⟨hca, hcn⟩ := List.mem_filter.mp hc
    have hcn2 : cand z c ∉ ts := by simpa using hcn
    rw [hcr] at hd
    refine ⟨_, rfl, D, _, _, _, rfl, rfl, SqL.of hd, atI_nat (j := 0) rfl, _, rfl, _, _, rfl, rfl, ?_, _, rfl, _, rfl, ?_, k _ _ k2 s2 (cand_word hz hca) hcn2⟩
    · have := hz.2.1
      show 1 + z.length ≤ sizeLine
      exact Nat.le_trans (show 1 + z.length ≤ 9 by omega) (by decide)
    · show (sign c ++ z).length ≤ sizeLine
      have := hz.2.1
      rw [len_tl] at this
      rw [len_tl, tl_app]
      simp only [List.length_append, tl_sign, List.length_singleton]
      exact Nat.le_trans (show 1 + z.cps.toList.length ≤ 9 by omega) (by decide)
end
end Lw

set_option Elab.async false
set_option linter.all false
set_option maxRecDepth 100000
set_option maxHeartbeats 2000000
namespace Lw
open PySem PySem.Spec PyProof.Rows L2
/-! isinstance of a caught error that has its own dict -/
def rIsED (K : PySem.W.Frag) (cls : Value) (d : Option Addr) (a : Addr) : List V → Hp → VK → Prop := fun xs H Q =>
  ∃ (D dd : Addr) (c : V) (cv : Value) (b : Bool) (fs : List (Str × V)), cls = .ref D ∧ d = some dd ∧ ExcC K D ∧ xs = [.ref a, c] ∧ (∀ u, RelV c u → u = cv) ∧ H dd = some (.xd fs) ∧ PySem.W.kitOne K (.ref D) cv = some b ∧ Q (.bl b) H
theorem call_isED {X : Cx} {a : Addr} {cls : Value} {d : Option Addr} {oe : Obj} {pn : List (Addr × Obj)} (hz : Zc cls d oe) (hf : ∃ vs, oe.data = .fields vs) :
    CallR (X.suite a ((a, oe) :: pn)) (.builtin "isinstance") (rIsED X.K cls d a) := by
  intro pins s σ H xs us Q I r h
  obtain ⟨D, dd, c, cv, b, fs, rfl, rfl, C, rfl, hcv, hdd, e, q⟩ := h
  obtain ⟨u1, u2, rfl, r1, r2⟩ := vals2 r
  obtain rfl : u1 = Value.ref a := r1
  obtain rfl := hcv _ r2
  have hp := (I.pin (a, oe) (List.mem_append_left _ List.mem_cons_self)).1
  obtain ⟨mA, hns, _⟩ := (show ObjOk X.prog X.w H s.heap dd (.xd fs) from I.hok dd _ hdd)
  obtain ⟨od, ho, _⟩ := lookIn_ns hns
  obtain ⟨vs, hv⟩ := hf
  have J : PySem.W.InstAt s.heap a oe D (some od) := ⟨hp, hz.1, by unfold PySem.W.notCls; rw [hv] <;> rfl, by rw [hz.2]; exact ho⟩
  have hc : (PySem.W.clsIn X.K D).isSome = true := by
    have z := C.hd
    unfold PySem.W.hasDictIn at z
    cases q : PySem.W.clsIn X.K D with
    | none => rw [q] at z; cases z
    | some y => rfl
  exact PySem.W.kia_one (PySem.W.kitx_exc hc C.hg C.hk C.hs C.ha C.hn C.ht C.hm) I.kIn J e (fun z => nomatch z) fun tk => ⟨.bl b, H, I.tok tk, rfl, q⟩
/-! f(k = v, ..), nothing by position, what it raises wished for at the caller's slots -/
def tCallKS (m : Nat) (sp : Sp) (gV : List V → List V → List V) (E : L2.St → XK) (tk : TA) : TE := fun σ H Q => tk σ H fun zs H2 => zs.length = m ∧ sp (gV [] zs) H2 Q (E σ)
section
variable {X : Cx} {CX : CXT} {k : Nat} {f : Addr} {fd : FuncData} {ps ks : List Str} {sp : Sp} {E : L2.St → XK} {x : Str} {p pos : Pos} {kws : List Keyword} {tk : TA} {g : List Value → List Value → List Value} {gV : List V → List V → List V}
theorem pe_callKS (F : FnOk X.prog X.w X.K X.mg X.base CX k f fd ps sp) (hr : Room k X.A) (hm : X.mg x = some (.ref f)) (hk : PySem.W.keepIn X.K (.ref f) = true) (hb : KBn X.K fd ps 0 ks g gV) (hx : ∀ σ, PassesAt CX X σ (E σ)) (hkw : PK X kws tk)
    (hg : Gl X x := by rfl) (hall : (backToKw pos (keywordEach kws X.env)).all (·.1.isSome) = true := by rfl) (hks : (backToKw pos (keywordEach kws X.env)).filterMap (·.1) = ks := by rfl) (hdb : (x == ("__debug__" : Str)) = false := by decide)
    (hpl : ((backTo pos (starEach [] X.env)).any (·.1) || (backToKw pos (keywordEach kws X.env)).any (·.1.isNone)) = false := by rfl) :
    PE X (.Call (.Name x p) [] kws pos) (tCallKS ks.length sp gV E tk) := by
  refine ⟨fun pins s σ H Q I h => wpAny_Call_Name_kw (ld_glob I hg hm ?_ hdb)⟩
  refine PySem.W.callWith_KW0 (h₀ := X.base) I.ok.mod.kin hk hall (thn (hkw.run pos pins s σ H _ I h) fun ws s2 ⟨zs, H2, I2, rz, l2, q2⟩ => ⟨I2.kIn, ?_⟩) hpl
  rw [hks]
  have r2 := hb.rel .nil rz
  have bt := hb.to s2 [] ws I2.kIn rfl (rz.length.symm.trans l2)
  refine wpAny_call (codeAny_mono (F.run X.A X.stack s2 H2 ⟨[], ks.zip ws⟩ (g [] ws) (gV [] zs) Q (E σ) hr I2.env0 bt r2 q2) fun r s' hq => ?_)
  match r, hq with
  | .error e, hq => exact hx σ pins H2 s2 e s' I2 hq
  | .ok (.ret u), hq => exact I2.after hq
  | .ok .next, hq => exact hq.elim
  | .ok .brk, hq => exact hq.elim
  | .ok .cont, hq => exact hq.elim
end
end Lw

set_option Elab.async false
set_option linter.all false
set_option maxRecDepth 100000
set_option maxHeartbeats 2000000
namespace Lw
open PySem PySem.Spec PyProof.Rows L2
abbrev sIsInteger : Stmt := top 3
abbrev sIsWord : Stmt := top 4
abbrev sCopied : Stmt := top 5
structure TxtP (mg : Str → Option Value) : Prop where
  isi : mg "isinstance" = none
  int : mg "int" = none
  bool : mg "bool" = none
  str : mg "str" = none
  list : mg "list" = none
  tuple : mg "tuple" = none
  dict : mg "dict" = none
  len : mg "len" = none
  all : mg "all" = none
  longest : ∃ t, mg "LONGEST_WORD" = some (.int 8 t)
/-- a value of a built-in type t -/
def IsTy (K : PySem.W.Frag) (H : Hp) (v : V) (t : String) : Prop := TyX K H v (.type t)
def NotTy (K : PySem.W.Frag) (H : Hp) (v : V) (c : String) : Prop := ∃ t, TyX K H v (.type t) ∧ kitB t c = some false
def isWordB (z : Str) : Bool := decide (1 ≤ z.length) && (decide (z.length ≤ 8) && z.cps.toList.all fun c => decide (97 ≤ c) && decide (c ≤ 122))
theorem isWordB_iff (z : Str) : isWordB z = true ↔ IsWord z := by
  unfold isWordB IsWord
  simp only [Bool.and_eq_true, decide_eq_true_eq, List.all_eq_true]
theorem isWordB_true {z : Str} (h : IsWord z) : isWordB z = true := (isWordB_iff z).mpr h
theorem isWordB_false {z : Str} (h : ¬ IsWord z) : isWordB z = false := by
  cases e : isWordB z with
  | false => rfl
  | true => exact absurd ((isWordB_iff z).mp e) h
def spIsInteger (K : PySem.W.Frag) : Sp := fun vs H Q _ => ∃ (v : V) (b : Bool), vs = [v] ∧
  ((b = true ∧ ∃ i, v = .int i) ∨ (b = false ∧ ((∃ c, v = .bl c) ∨ NotTy K H v "int"))) ∧ Q (.bl b) H
def spIsWord (K : PySem.W.Frag) : Sp := fun vs H Q _ => ∃ (v : V) (b : Bool), vs = [v] ∧
  ((∃ z, v = .str z ∧ z.length ≤ 1000 ∧ b = isWordB z) ∨ (b = false ∧ NotTy K H v "str")) ∧ ∀ H', Same H H' → Q (.bl b) H'
def spCopied (K : PySem.W.Frag) : Sp := fun vs H Q _ => ∃ (v : V), vs = [v] ∧ NotTy K H v "list" ∧ NotTy K H v "tuple" ∧ NotTy K H v "dict" ∧ Q v H
section
variable {P : Program} {w : World} {K : PySem.W.Frag} {mg : Str → Option Value} {base : Heap}
theorem ty_int {H : Hp} (i : Int) : TyX K H (.int i) (.type "int") := .base (.int i)
theorem ty_bl {H : Hp} (i : Bool) : TyX K H (.bl i) (.type "bool") := .base (.bl i)
theorem ty_str {H : Hp} (i : Str) : TyX K H (.str i) (.type "str") := .base (.str i)
theorem ty_non {H : Hp} : TyX K H .non (.type "NoneType") := .base .non
theorem scIsInteger : FnScope ["value"] ["value"] (defScope sIsInteger) := ⟨rfl, rfl, rfl, by decide +kernel, rfl, by decide +kernel, by decide +kernel⟩
theorem ok_isInteger {f : Addr} {fd : FuncData} (F : FnP K "is_integer" sIsInteger f fd) (T : TxtP mg) : FnOk P w K mg base CX0 1 f fd ["value"] (spIsInteger K) := by
  refine F.ok scIsInteger (fun vs H Q E h => ?_) (fun cdv A outer s H vs Q E hr h => ?_)
  · obtain ⟨v, b, rfl, _⟩ := h
    rfl
  · obtain ⟨v, b, rfl, hv, k⟩ := h
    refine ⟨_, PSs.nox (pss_one (ps_ret (pe_and (pe_callB call_isi (by rfl) T.isi (by decide +kernel) (pa_cons (pv 0) (pa_cons (pe_bltn (v := .ty "int") (by rfl) T.int (by decide +kernel) rfl) pa_nil)))
      (pe_one (pe_not (pe_callB call_isi (by rfl) T.isi (by decide +kernel) (pa_cons (pv 0) (pa_cons (pe_bltn (v := .ty "bool") (by rfl) T.bool (by decide +kernel) rfl) pa_nil)))))))), ?_⟩
    rcases hv with ⟨rfl, i, rfl⟩ | ⟨rfl, ⟨c, rfl⟩ | ⟨t, ht, kt⟩⟩
    · exact ⟨_, rfl, _, _, _, _, true, rfl, .ty _, ty_int i, kit_ty (by decide +kernel), true, rfl, iteT ⟨_, rfl, _, _, _, _, false, rfl, .ty _, ty_int i, kit_ty (by decide +kernel), false, rfl, k⟩⟩
    · exact ⟨_, rfl, _, _, _, _, true, rfl, .ty _, ty_bl c, kit_ty (by decide +kernel), true, rfl, iteT ⟨_, rfl, _, _, _, _, true, rfl, .ty _, ty_bl c, kit_ty (by decide +kernel), true, rfl, k⟩⟩
    · exact ⟨_, rfl, _, _, _, _, false, rfl, .ty _, ht, kit_ty kt, false, rfl, iteF k⟩
theorem scIsWord : FnScope ["value", "letter"] ["value"] (defScope sIsWord) := ⟨rfl, rfl, rfl, by decide +kernel, rfl, by decide +kernel, by decide +kernel⟩
theorem lt_sign (c d : Nat) : decide (([c] : List Nat) < [d]) = decide (c < d) := by
  have : (([c] : List Nat) < [d]) ↔ c < d := by
    rw [List.cons_lt_cons_iff]
    simp
  simp only [this]
theorem ok_isWord {f : Addr} {fd : FuncData} (F : FnP K "is_word" sIsWord f fd) (T : TxtP mg) : FnOk P w K mg base CX0 1 f fd ["value"] (spIsWord K) := by
  obtain ⟨tk, hlw⟩ := T.longest
  refine F.ok scIsWord (fun vs H Q E h => ?_) (fun cdv A outer s H vs Q E hr h => ?_)
  · obtain ⟨v, b, rfl, _⟩ := h
    rfl
  · obtain ⟨v, b, rfl, hv, k⟩ := h
    refine ⟨_, PSs.nox (pss_cons (ps_if (PW.pt (pw_or (pt_not (pt_val (pe_callB call_isi (by rfl) T.isi (by decide +kernel) (pa_cons (pv 0) (pa_cons (pe_bltn (v := .ty "str") (by rfl) T.str (by decide +kernel) rfl) pa_nil)))))
        (pw_or1 (pt_not (pt_chain op_le op_le pe_int (pe_callB call_len_str (by rfl) T.len PySem.boot_len (pa_cons (pv 0) pa_nil)) (pe_glob (v := .int 8) rfl hlw ⟨_, rfl⟩)))))) (pss_one (ps_ret pe_bl)) pss_nil)
      (pss_one (ps_ret (pe_callB (cr_all rfl) (by rfl) T.all (by decide +kernel) (pa_cons (pe_lc (own := [("letter", 1)]) (g := gName 1) (tt := tYes) rfl scIsWord.nd (pi_str (pv 0)) (blkOk_by (N := ["value", "letter"]) (sc := defScope sIsWord) (by decide +kernel))
        (fun _ _ _ _ _ => pg_name (i := 1) scIsWord.nd rfl (Or.inl rfl)) (fun _ _ _ _ _ => pts_nil) (fun _ _ _ _ _ => pe_chain op_le_str op_le_str pe_str (pv 1) pe_str)) pa_nil))))), ?_⟩
    have isz : ∀ z : Str, z.length ≤ 1000 → z.length ≤ sizeLine := fun z hz => Nat.le_trans hz (by decide)
    rcases hv with ⟨z, rfl, hz, rfl⟩ | ⟨rfl, t, ht, kt⟩
    · refine sq_if1 (fun b' H' => H = H' ∧ b' = !(decide (1 ≤ z.length) && decide (z.length ≤ 8))) (fun Q q => ?_) ?_ ?_
      · refine ⟨_, rfl, _, _, _, _, true, rfl, .ty _, ty_str z, kit_ty (by decide +kernel), true, rfl, iteF ⟨_, rfl, _, rfl, isz z hz, _, _, rfl, rfl, _, rfl, ?_⟩⟩
        refine bool_ite (fun c => ?_) (fun c => ?_)
        · refine ⟨_, _, rfl, rfl, _, rfl, q _ _ ⟨rfl, ?_⟩⟩
          have c1 : 1 ≤ z.length := by omega
          rw [decide_eq_true c1, Bool.true_and]
          congr 1
          exact decide_eq_decide.mpr (by omega)
        · refine ⟨_, rfl, q _ _ ⟨rfl, ?_⟩⟩
          have c1 : ¬ 1 ≤ z.length := by omega
          rw [decide_eq_false c1, Bool.false_and]
      · rintro _ ⟨rfl, e⟩
        have e1 : isWordB z = false := by
          unfold isWordB
          rw [← Bool.and_assoc]
          have e2 : (decide (1 ≤ z.length) && decide (z.length ≤ 8)) = false := by
            cases q : (decide (1 ≤ z.length) && decide (z.length ≤ 8)) with
            | false => rfl
            | true => rw [q] at e; cases e
          rw [e2, Bool.false_and]
        rw [e1] at k
        exact k _ (Same.refl H)
      · rintro _ ⟨rfl, e⟩
        have e2 : (decide (1 ≤ z.length) && decide (z.length ≤ 8)) = true := by
          cases q : (decide (1 ≤ z.length) && decide (z.length ≤ 8)) with
          | true => rfl
          | false => rw [q] at e; cases e
        have e1 : isWordB z = z.cps.toList.all fun c => decide (97 ≤ c) && decide (c ≤ 122) := by
          unfold isWordB
          rw [← Bool.and_assoc, e2, Bool.true_and]
        refine ⟨_, rfl, z, rfl, fun D hD => ?_⟩
        refine lc_it walk_str (fun j H' => H' D = some (.lst (((z.cps.toList.take j).map fun c => decide (97 ≤ c) && decide (c ≤ 122)).map V.bl)) ∧ Same H H')
          ⟨upd_same, fun b o h => by rw [upd_ne (ne_of_none h hD)]; exact h⟩ (fun _ _ _ _ => trivial) ?_ ?_
        · rintro j x _ H' hj ⟨hd, k2⟩ ⟨rfl, c, hc, rfl⟩
          have hc2 : z.cps.toList[j]? = some c := by simpa using hc
          have ht : z.cps.toList.take (j + 1) = z.cps.toList.take j ++ [c] := by rw [List.take_add_one, hc2]; rfl
          have fin : ∀ b' : Bool, b' = (decide (97 ≤ c) && decide (c ≤ 122)) → ∃ acc, H' D = some (.lst acc) ∧ acc.length < sizeLine ∧ ((upd H' D (.lst (acc ++ [.bl b']))) D = some (.lst (((z.cps.toList.take (j + 1)).map fun c => decide (97 ≤ c) && decide (c ≤ 122)).map V.bl)) ∧ Same H (upd H' D (.lst (acc ++ [.bl b'])))) := fun b' hb' => by
            refine ⟨_, hd, ?_, ?_, fun b o h => ?_⟩
            · simp only [List.length_map]
              rw [len_tl] at hz
              exact Nat.lt_of_le_of_lt (List.length_take_le' _ _) (Nat.lt_of_le_of_lt hz (by decide))
            · rw [upd_same, ht, List.map_append, List.map_append, hb']
              rfl
            · by_cases hbD : b = D
              · rw [hbD, hD] at h
                cases h
              · rw [upd_ne hbD]; exact k2 b o h
          have la : ∀ c d : Nat, decide (([c] : List Nat) < [d]) = decide (c < d) := lt_sign
          refine ⟨rfl, _, rfl, _, _, rfl, rfl, _, rfl, ?_⟩
          show if (!decide ([c] < [97])) = true then _ else _
          rw [lt_sign]
          by_cases c1 : c < 97
          · rw [decide_eq_true c1, Bool.not_true, if_neg Bool.false_ne_true]
            exact fin false (by rw [decide_eq_false (by omega : ¬ 97 ≤ c), Bool.false_and])
          · rw [decide_eq_false c1, Bool.not_false, if_pos rfl]
            refine ⟨_, _, rfl, rfl, ?_⟩
            show ∃ acc, _ ∧ _ ∧ _
            have e3 : (!decide ([122] < ([c] : List Nat))) = (decide (97 ≤ c) && decide (c ≤ 122)) := by
              rw [lt_sign, decide_eq_true (by omega : 97 ≤ c), Bool.true_and]
              by_cases c2 : c ≤ 122
              · rw [decide_eq_true c2, decide_eq_false (by omega : ¬ 122 < c)]; rfl
              · rw [decide_eq_false c2, decide_eq_true (by omega : 122 < c)]; rfl
            exact fin _ e3
        · rintro H' ⟨hd, k2⟩
          have e4 : z.cps.toList.take z.cps.size = z.cps.toList := List.take_of_length_le (by simp)
          rw [e4] at hd
          refine ⟨D, _, rfl, SqL.of hd, ?_⟩
          have e5 : (z.cps.toList.map fun c => decide (97 ≤ c) && decide (c ≤ 122)).all id = isWordB z := by
            rw [e1, List.all_map]
            rfl
          show Q (.bl _) H'
          rw [e5]
          exact k _ k2
    · refine sq_if1 (fun b' H' => H = H' ∧ b' = true) (fun Q q => ⟨_, rfl, _, _, _, _, false, rfl, .ty _, ht, kit_ty kt, false, rfl, iteT (q _ _ ⟨rfl, rfl⟩)⟩) ?_ ?_
      · rintro _ ⟨rfl, _⟩
        exact k _ (Same.refl H)
      · rintro _ ⟨_, e⟩
        cases e
theorem scCopied : FnScope ["value", "part", "name"] ["value"] (defScope sCopied) := ⟨rfl, rfl, rfl, by decide +kernel, rfl, by decide +kernel, by decide +kernel⟩
theorem ok_copied {f : Addr} {fd : FuncData} (F : FnP K "copied" sCopied f fd) (T : TxtP mg) : FnOk P w K mg base CX0 1 f fd ["value"] (spCopied K) := by
  refine F.ok scCopied (fun vs H Q E h => ?_) (fun cdv A outer s H vs Q E hr h => ?_)
  · obtain ⟨v, rfl, _⟩ := h
    rfl
  · obtain ⟨v, rfl, ⟨t1, h1, k1⟩, ⟨t2, h2, k2⟩, ⟨t3, h3, k3⟩, k⟩ := h
    refine ⟨_, PSs.nox (pss_cons (ps_if (pt_val (pe_callB call_isi (by rfl) T.isi (by decide +kernel) (pa_cons (pv 0) (pa_cons (pe_bltn (v := .ty "list") (by rfl) T.list (by decide +kernel) rfl) pa_nil)))) (pss_one ps_never) pss_nil)
      (pss_cons (ps_if (pt_val (pe_callB call_isi (by rfl) T.isi (by decide +kernel) (pa_cons (pv 0) (pa_cons (pe_bltn (v := .ty "tuple") (by rfl) T.tuple (by decide +kernel) rfl) pa_nil)))) (pss_one ps_never) pss_nil)
      (pss_cons (ps_if (pt_val (pe_callB call_isi (by rfl) T.isi (by decide +kernel) (pa_cons (pv 0) (pa_cons (pe_bltn (v := .ty "dict") (by rfl) T.dict (by decide +kernel) rfl) pa_nil)))) (pss_one ps_never) pss_nil)
      (pss_one (ps_ret (pv 0)))))), ?_⟩
    exact ⟨_, rfl, _, _, _, _, false, rfl, .ty _, h1, kit_ty k1, false, rfl, iteF ⟨_, rfl, _, _, _, _, false, rfl, .ty _, h2, kit_ty k2, false, rfl, iteF ⟨_, rfl, _, _, _, _, false, rfl, .ty _, h3, kit_ty k3, false, rfl, iteF ⟨_, rfl, k⟩⟩⟩⟩
end
end Lw

set_option Elab.async false
set_option linter.all false
set_option maxRecDepth 100000
set_option maxHeartbeats 2000000
namespace Lw
open PySem PySem.Spec PyProof.Rows L2
abbrev sBF : Stmt := inClass (top 11) 0
abbrev sCompare : Stmt := top 36
abbrev sIsEmpty : Stmt := top 37
abbrev sFI : Stmt := inClass (top 38) 0
abbrev MethD (K : PySem.W.Frag) (x q : Str) (st : Stmt) (f : Addr) (fd : FuncData) : Prop := FunD K x q (defArgs st) (defBody st) (defScope st) [] [] f fd
def part (v : V) : List (Str × V) := [("part", v)]
/-- an exception that was made and raised leaves its dict -/
theorem exc_end {H : Hp} {a C d : Addr} {fs : List (Str × V)} (na : H a = none) (nd : upd H a (exo a C none) d = none) (da : d ≠ a) :
    H d = none ∧ Same H (upd (del (upd (upd (upd H a (exo a C none)) d (exd d fs)) a (exo a C (some d))) a) d (.xd fs)) := by
  have n2 : H d = none := by rw [upd_ne da] at nd; exact nd
  refine ⟨n2, fun b o h => ?_⟩
  rw [upd_ne (ne_of_none h n2), del_ne (ne_of_none h na), upd_ne (ne_of_none h na), upd_ne (ne_of_none h n2), upd_ne (ne_of_none h na)]
  exact h
def spBF (K : PySem.W.Frag) (C : Addr) : Sp := fun vs H Q _ => ∃ (a : Addr) (v : V), vs = [.ref a, v] ∧ NotTy K H v "list" ∧ NotTy K H v "tuple" ∧ NotTy K H v "dict" ∧ H a = some (exo a C none) ∧
  ∀ d, H d = none → d ≠ a → Q .non (upd (upd H d (exd d (part v))) a (exo a C (some d)))
structure TxtB (K : PySem.W.Frag) (mg : Str → Option Value) (C : Addr) : Prop where
  oex : OexC K C
  noP : PySem.W.findIn K (.ref C) "part" = some none
  gC : mg "BadFilter" = some (.ref C)
section
variable {P : Program} {w : World} {K : PySem.W.Frag} {mg : Str → Option Value} {base : Heap} {C CF dS : Addr}
theorem nt_str {H : Hp} (z : Str) : NotTy K H (.str z) "list" ∧ NotTy K H (.str z) "tuple" ∧ NotTy K H (.str z) "dict" :=
  ⟨⟨_, ty_str z, by decide +kernel⟩, ⟨_, ty_str z, by decide +kernel⟩, ⟨_, ty_str z, by decide +kernel⟩⟩
theorem scBF : FnScope ["self", "part"] ["self", "part"] (defScope sBF) := ⟨rfl, rfl, rfl, by decide +kernel, rfl, by decide +kernel, by decide +kernel⟩
theorem ok_bf {f : Addr} {fd : FuncData} (F : MethD K "__init__" "BadFilter.__init__" sBF f fd) (T : TxtB K mg C) (cC : Cal P w K mg base CX0 "copied" 1 ["value"] (spCopied K)) : FnOk P w K mg base CX0 2 f fd ["self", "part"] (spBF K C) := by
  refine F.ok scBF (fun vs H Q E h => ?_) (fun cdv A outer s H vs Q E hr h => ?_)
  · obtain ⟨a, v, rfl, _⟩ := h
    rfl
  · obtain ⟨a, v, rfl, h1, h2, h3, ha, k⟩ := h
    refine ⟨_, PSs.nox (pss_one (ps_ost (pv 0) (pe_cal cC hr (pa_cons (pv 1) pa_nil)))), ?_⟩
    exact ⟨_, rfl, v, rfl, h1, h2, h3, _, rfl, a, C, rfl, T.oex, T.noP, .inl ⟨ha, fun dx hn ne => k dx hn ne⟩⟩
/-- what is needed to raise it -/
structure BadF (P : Program) (w : World) (K : PySem.W.Frag) (mg : Str → Option Value) (base : Heap) (C : Addr) : Prop where
  T : TxtB K mg C
  ex : ∃ f fd, PySem.W.findIn K (.ref C) "__init__" = some (some (.ref f)) ∧ PySem.W.typeIn K (.ref f) = some (.type "function") ∧ FnOk P w K mg base CX0 2 f fd ["self", "part"] (spBF K C) ∧ Binds K fd ["self", "part"] []
end
section
variable {X : Cx} {C : Addr} {z : Str} {j : Nat} {p p2 pos pos2 : Pos} {W : WX}
theorem ps_badf (B : BadF X.prog X.w X.K X.mg X.base C) (hc : X.calm = true) (hr : Room 3 X.A) (tk : Takes X W) (hg : Gl X "BadFilter" := by rfl)
    (he : starEach [.Constant (.str z) j p2] X.env = (false, eval (.Constant (.str z) j p2) X.env) :: starEach [] X.env := by rfl) (hpl : (backTo pos (starEach [] X.env)).any (·.1) = false := by rfl) :
    PS X (.Raise (some (.Call (.Name "BadFilter" p) [.Constant (.str z) j p2] [] pos)) none pos2) (fun _ σ H => tMkO C (spBF X.K C) [] (tCons (tC (.str z)) tNil) σ H fun cls d H' => W cls d σ H') := by
  obtain ⟨f, fd, h1, h2, F, b⟩ := B.ex
  exact ps_raise hc tk (pmk_oex B.T.oex h1 h2 F hr b .nil pass0 hg B.T.gC (pa_cons pe_str pa_nil) (by decide) he hpl)
end
/-- the reading of such a raise -/
theorem badf_read {K : PySem.W.Frag} {C : Addr} {z : Str} {σ : L2.St} {H : Hp} {E : XK} (k : ∀ d G, H d = none → Same H G → G d = some (.xd (part (.str z))) → E (.ref C) (some d) G) :
    tMkO C (spBF K C) [] (tCons (tC (.str z)) tNil) σ H E := by
  refine ⟨by show 1 ≤ 1000; decide, fun a na => ⟨a, .str z, rfl, (nt_str z).1, (nt_str z).2.1, (nt_str z).2.2, upd_same, fun d nd da => ⟨rfl, d, part (.str z), upd_same, ?_, ?_, ?_⟩⟩⟩
  · rw [upd_ne da, upd_same]
  · exact (exc_end (fs := part (.str z)) na nd da).1
  · exact k d _ (exc_end (fs := part (.str z)) na nd da).1 (exc_end na nd da).2 upd_same
/-! Filter([..]) -/
structure TxtF (K : PySem.W.Frag) (mg : Str → Option Value) (CF : Addr) : Prop where
  cl : Cls K CF
  nT : NoAttr K CF "_terms"
  gF : mg "Filter" = some (.ref CF)
  tuple : mg "tuple" = none
def spFI (K : PySem.W.Frag) (CF : Addr) : Sp := fun vs H Q _ => ∃ (p dx l : Addr) (xs : List V), vs = [.ref p, .ref l] ∧ H p = some (.ins CF dx []) ∧ SqL K H l xs ∧
  ∀ t, H t = none → Q .non (upd (upd H t (.tup xs)) p (.ins CF dx (putF "_terms" (.ref t) [])))
section
variable {P : Program} {w : World} {K : PySem.W.Frag} {mg : Str → Option Value} {base : Heap} {C CF dS : Addr}
theorem scFI : FnScope ["self", "terms"] ["self", "terms"] (defScope sFI) := ⟨rfl, rfl, rfl, by decide +kernel, rfl, by decide +kernel, by decide +kernel⟩
theorem ok_fi {f : Addr} {fd : FuncData} (F : MethD K "__init__" "Filter.__init__" sFI f fd) (T : TxtF K mg CF) : FnOk P w K mg base CX0 1 f fd ["self", "terms"] (spFI K CF) := by
  refine F.ok scFI (fun vs H Q E h => ?_) (fun cdv A outer s H vs Q E hr h => ?_)
  · obtain ⟨p, dx, l, xs, rfl, _⟩ := h
    rfl
  · obtain ⟨p, dx, l, xs, rfl, hp, hl, k⟩ := h
    refine ⟨_, PSs.nox (pss_one (ps_fld (pv 0) (pe_callTy call_tuple_of (by rfl) T.tuple (by decide +kernel) (pa_cons (pv 1) pa_nil)) rfl)), ?_⟩
    exact ⟨_, rfl, l, _, rfl, .inl ⟨hl, fun t ht => ⟨_, rfl, p, CF, dx, _, rfl, (by rw [upd_ne (ne_of_none hp ht)]; exact hp), T.cl, T.nT, (by show 0 < 1000; decide), k t ht⟩⟩⟩
structure MakF (P : Program) (w : World) (K : PySem.W.Frag) (mg : Str → Option Value) (base : Heap) (CF : Addr) : Prop where
  T : TxtF K mg CF
  ex : ∃ f fd, Mk K CF f ∧ FnOk P w K mg base CX0 1 f fd ["self", "terms"] (spFI K CF) ∧ Binds K fd ["self", "terms"] []
end
section
variable {X : Cx} {CF : Addr} {p pos : Pos} {e : Expr} {t : TA}
theorem pe_filter (B : MakF X.prog X.w X.K X.mg X.base CF) (hr : Room 2 X.A) (ha : PA X [e] t) (hg : Gl X "Filter" := by rfl)
    (he : starEach [e] X.env = (false, eval e X.env) :: starEach [] X.env := by rfl) (hpl : (backTo pos (starEach [] X.env)).any (·.1) = false := by rfl) :
    PE X (.Call (.Name "Filter" p) [e] [] pos) (tMake CF (spFI X.K CF) [] E0 t) := by
  obtain ⟨f, fd, M, F, b⟩ := B.ex
  exact pe_make M F hr hg B.T.gF b .nil pass0 ha (by decide) he hpl
end
theorem filter_tail {K : PySem.W.Frag} {CF l : Addr} {xs : List V} {H H1 : Hp} {Q : VK} {E : XK} (s : Same H H1) (hl : H1 l = some (.lst xs)) (k : ∀ p G dx fs, H p = none → Same H G → G p = some (.ins CF dx fs) → Q (.ref p) G) :
    ∀ x dx, H1 x = none → H1 dx = none → dx ≠ x → spFI K CF [.ref x, .ref l] (upd (upd H1 dx (.own x)) x (.ins CF dx [])) (fun v H2 => v = .non ∧ Q (.ref x) H2) E := fun x dx nx nd ne => by
  refine ⟨x, dx, l, xs, rfl, upd_same, SqL.of (by rw [upd_ne (ne_of_none hl nx), upd_ne (ne_of_none hl nd)]; exact hl), fun t ht => ⟨rfl, k x _ dx _ (s.free nx) (fun b o h => ?_) upd_same⟩⟩
  have h1 := s b o h
  have nbx := ne_of_none h1 nx
  have nbd := ne_of_none h1 nd
  have h2 : (upd (upd H1 dx (.own x)) x (.ins CF dx [])) b = some o := by rw [upd_ne nbx, upd_ne nbd]; exact h1
  rw [upd_ne nbx, upd_ne (ne_of_none h2 ht)]
  exact h2
/-! compare, is_empty -/
def goodSigns : List Str := ["=", "!=", "<", "<=", ">", ">="]
def badSigns : List Str := ["", "==", "<>", "=<", "=>", " <", "<<", "!", "lt"]
inductive Verdict (K : PySem.W.Frag) (H : Hp) : V → V → V → Option Str → Prop where
  | name {n s m : V} (h : (∃ z, n = .str z ∧ z.length ≤ 1000 ∧ ¬ IsWord z) ∨ NotTy K H n "str") : Verdict K H n s m (some "name")
  | sign {z : Str} {s m : V} (hz : IsWord z) (h : (∃ y ∈ badSigns, s = .str y) ∨ NotTy K H s "str") : Verdict K H (.str z) s m (some "sign")
  | number {z y : Str} {m : V} (hz : IsWord z) (hy : y ∈ goodSigns) (h : (∃ b, m = .bl b) ∨ NotTy K H m "int") : Verdict K H (.str z) (.str y) m (some "number")
  | fine {z y : Str} {i : Int} (hz : IsWord z) (hy : y ∈ goodSigns) : Verdict K H (.str z) (.str y) (.int i) none
def Told (C CF : Addr) (H : Hp) (r : Option Str) (Q : VK) (E : XK) : Prop := match r with
  | some z => ∀ d G, H d = none → Same H G → G d = some (.xd (part (.str z))) → E (.ref C) (some d) G
  | none => ∀ p G dx fs, H p = none → Same H G → G p = some (.ins CF dx fs) → Q (.ref p) G
theorem Told.mono {C CF : Addr} {H H1 : Hp} {r : Option Str} {Q : VK} {E : XK} (s : Same H H1) (h : Told C CF H r Q E) : Told C CF H1 r Q E := by
  cases r with
  | some z => exact fun d G hd hs => h d G (s.free hd) (s.trans hs)
  | none => exact fun p G dx fs hp hs => h p G dx fs (s.free hp) (s.trans hs)
def spCompare (K : PySem.W.Frag) (C CF : Addr) : Sp := fun vs H Q E => ∃ (n s m : V) (r : Option Str), vs = [n, s, m] ∧ Verdict K H n s m r ∧ Told C CF H r Q E
def spIsEmpty (K : PySem.W.Frag) (C CF : Addr) : Sp := fun vs H Q E => ∃ (n : V) (r : Option Str), vs = [n] ∧
  ((r = some "name" ∧ ((∃ z, n = .str z ∧ z.length ≤ 1000 ∧ ¬ IsWord z) ∨ NotTy K H n "str")) ∨ (r = none ∧ ∃ z, n = .str z ∧ IsWord z)) ∧ Told C CF H r Q E
structure TxtS (K : PySem.W.Frag) (mg : Str → Option Value) (w : World) (dS : Addr) : Prop where
  gS : mg "SIGNS" = some (.ref dS)
  kd : ∃ es n, KDict K w dS es n
  good : ∀ y ∈ goodSigns, ∃ u, PySem.W.nsIn K dS y = some (some u)
  bad : ∀ y ∈ badSigns, PySem.W.nsIn K dS y = some none
  isi : mg "isinstance" = none
  str : mg "str" = none
  empty : ∃ t, mg "EMPTY" = some (.str "empty" t)
theorem Same.new {H H1 : Hp} {p : Addr} {o : HO} (s : Same H H1) (h : H1 p = none) : Same H (upd H1 p o) := fun b u e => by
  rw [upd_ne (ne_of_none (s b u e) h)]
  exact s b u e
section
variable {P : Program} {w : World} {K : PySem.W.Frag} {mg : Str → Option Value} {base : Heap} {C CF dS : Addr}
theorem NotTy.same {H H1 : Hp} {v : V} {c : String} (s : Same H H1) (h : NotTy K H v c) : NotTy K H1 v c := by
  obtain ⟨t, ht, k⟩ := h
  refine ⟨t, ?_, k⟩
  cases ht with
  | base b => cases b with
    | non => exact .base .non
    | bl y => exact .base (.bl y)
    | int i => exact .base (.int i)
    | str y => exact .base (.str y)
    | flt y => exact .base (.flt y)
    | lst e => exact .base (.lst (s _ _ e))
    | frz e => exact .base (.frz (s _ _ e))
    | tup e => exact .base (.tup (s _ _ e))
    | dK e => exact .base (.dK (s _ _ e))
    | dT e => exact .base (.dT (s _ _ e))
  | byt b => exact .byt b
  | set e => exact .set (s _ _ e)
  | kList e c => exact .kList e c
  | kTuple e c => exact .kTuple e c
  | kDict e c => exact .kDict e c
  | fTuple e => exact .fTuple (s _ _ e)
  | fDict e => exact .fDict (s _ _ e)
theorem not_nt_str {H : Hp} {z : Str} (h : NotTy K H (.str z) "str") : False := by
  obtain ⟨t, ht, k⟩ := h
  generalize hv : V.str z = v at ht
  generalize hu : Value.type t = u at ht
  cases ht with
  | base b =>
    cases b with
    | str y =>
      cases hu
      exact absurd k (by decide +kernel)
    | _ => cases hv
  | _ => cases hv
theorem not_nt_int {H : Hp} {i : Int} (h : NotTy K H (.int i) "int") : False := by
  obtain ⟨t, ht, k⟩ := h
  generalize hv : V.int i = v at ht
  generalize hu : Value.type t = u at ht
  cases ht with
  | base b =>
    cases b with
    | int y =>
      cases hu
      exact absurd k (by decide +kernel)
    | _ => cases hv
  | _ => cases hv
theorem scCompare : FnScope ["name", "sign", "number"] ["name", "sign", "number"] (defScope sCompare) := ⟨rfl, rfl, rfl, by decide +kernel, rfl, by decide +kernel, by decide +kernel⟩
theorem word_len {z : Str} (h : IsWord z) : z.length ≤ 1000 := Nat.le_trans h.2.1 (by decide)
theorem ok_compare {f : Addr} {fd : FuncData} (F : FnP K "compare" sCompare f fd) (T : TxtS K mg w dS) (cW : Cal P w K mg base CX0 "is_word" 1 ["value"] (spIsWord K)) (cI : Cal P w K mg base CX0 "is_integer" 1 ["value"] (spIsInteger K))
    (B : BadF P w K mg base C) (M : MakF P w K mg base CF) : FnOk P w K mg base (L2.CX P w) 4 f fd ["name", "sign", "number"] (spCompare K C CF) := by
  obtain ⟨es, n0, D⟩ := T.kd
  refine F.ok scCompare (fun vs H Q E h => ?_) (fun cdv A outer s0 H vs Q E hr h => ?_)
  · obtain ⟨n, s, m, r, rfl, _⟩ := h
    rfl
  · obtain ⟨n, s, m, r, rfl, hv, k⟩ := h
    refine ⟨_, pss_cons (ps_if (pt_not (pt_val (pe_cal cW (hr.mono (by decide)) (pa_cons (pv 0) pa_nil)))) (pss_one (ps_badf B rfl hr (takes_of rfl rfl rfl rfl))) pss_nil)
      (pss_cons (ps_if (PW.pt (pw_or (pt_not (pt_val (pe_callB call_isi (by rfl) T.isi (by decide +kernel) (pa_cons (pv 1) (pa_cons (pe_bltn (v := .ty "str") (by rfl) T.str (by decide +kernel) rfl) pa_nil)))))
        (pw_or1 (pt_cmpR (op_notIn_kd D) (pv 1) (pe_glob (v := .ref dS) rfl T.gS rfl) rfl)))) (pss_one (ps_badf B rfl hr (takes_of rfl rfl rfl rfl))) pss_nil)
      (pss_cons (ps_if (pt_not (pt_val (pe_cal cI (hr.mono (by decide)) (pa_cons (pv 2) pa_nil)))) (pss_one (ps_badf B rfl hr (takes_of rfl rfl rfl rfl))) pss_nil)
      (pss_one (ps_ret (pe_filter M (hr.mono (by decide)) (pa_cons (pe_lst (pa_cons (pe_tup (pa_cons (pv 1) (pa_cons (pv 0) (pa_cons (pv 2) pa_nil)))) pa_nil)) pa_nil)))))), ?_⟩
    have nok : ∀ (z : Str), IsWord z → (!isWordB z) = false := fun z hz => by rw [isWordB_true hz]; rfl
    refine sq_if1 (fun b' H' => Same H H' ∧ (if b' = true then r = some "name" else ∃ z, n = .str z ∧ IsWord z)) (fun Q q => ?_) ?_ ?_
    · cases hv with
      | name h =>
        rcases h with ⟨z, rfl, hl, hz⟩ | h
        · exact ⟨_, rfl, _, _, rfl, .inl ⟨z, rfl, hl, rfl⟩, fun H' s => ⟨_, rfl, q _ _ ⟨s, by rw [isWordB_false hz]; rfl⟩⟩⟩
        · exact ⟨_, rfl, _, _, rfl, .inr ⟨rfl, h⟩, fun H' s => ⟨_, rfl, q _ _ ⟨s, rfl⟩⟩⟩
      | sign hz h => exact ⟨_, rfl, _, _, rfl, .inl ⟨_, rfl, word_len hz, rfl⟩, fun H' s => ⟨_, rfl, q _ _ ⟨s, by rw [isWordB_true hz]; exact ⟨_, rfl, hz⟩⟩⟩⟩
      | number hz _ h => exact ⟨_, rfl, _, _, rfl, .inl ⟨_, rfl, word_len hz, rfl⟩, fun H' s => ⟨_, rfl, q _ _ ⟨s, by rw [isWordB_true hz]; exact ⟨_, rfl, hz⟩⟩⟩⟩
      | fine hz _ => exact ⟨_, rfl, _, _, rfl, .inl ⟨_, rfl, word_len hz, rfl⟩, fun H' s => ⟨_, rfl, q _ _ ⟨s, by rw [isWordB_true hz]; exact ⟨_, rfl, hz⟩⟩⟩⟩
    · rintro H1 ⟨s1, e⟩
      obtain rfl : r = some "name" := e
      exact badf_read (k.mono s1)
    rintro H1 ⟨s1, z, rfl, hz⟩
    replace k := k.mono s1
    refine sq_if1 (fun b' H' => H1 = H' ∧ (if b' = true then r = some "sign" else ∃ y ∈ goodSigns, s = .str y)) (fun Q q => ?_) ?_ ?_
    · cases hv with
      | name h =>
        exfalso
        rcases h with ⟨z2, e, _, hz2⟩ | h
        · cases e; exact hz2 hz
        · exact not_nt_str h
      | sign _ h =>
        rcases h with ⟨y, hy, rfl⟩ | ⟨t, ht, kt⟩
        · exact ⟨_, rfl, _, _, _, _, true, rfl, .ty _, ty_str y, kit_ty (by decide +kernel), true, rfl, iteF ⟨_, rfl, y, none, rfl, rfl, T.bad y hy, _, rfl, q _ _ ⟨rfl, rfl⟩⟩⟩
        · obtain ⟨t2, ht2, kt2⟩ := NotTy.same s1 ⟨t, ht, kt⟩
          exact ⟨_, rfl, _, _, _, _, false, rfl, .ty _, ht2, kit_ty kt2, false, rfl, iteT (q _ _ ⟨rfl, rfl⟩)⟩
      | @number _ y _ _ hy _ =>
        obtain ⟨u, hu⟩ := T.good y hy
        exact ⟨_, rfl, _, _, _, _, true, rfl, .ty _, ty_str y, kit_ty (by decide +kernel), true, rfl, iteF ⟨_, rfl, y, some u, rfl, rfl, hu, _, rfl, q _ _ ⟨rfl, ⟨y, hy, rfl⟩⟩⟩⟩
      | @fine _ y _ _ hy =>
        obtain ⟨u, hu⟩ := T.good y hy
        exact ⟨_, rfl, _, _, _, _, true, rfl, .ty _, ty_str y, kit_ty (by decide +kernel), true, rfl, iteF ⟨_, rfl, y, some u, rfl, rfl, hu, _, rfl, q _ _ ⟨rfl, ⟨y, hy, rfl⟩⟩⟩⟩
    · rintro _ ⟨rfl, e⟩
      obtain rfl : r = some "sign" := e
      exact badf_read k
    rintro _ ⟨rfl, y, hy, rfl⟩
    refine sq_if1 (fun b' H' => H1 = H' ∧ (if b' = true then r = some "number" else r = none)) (fun Q q => ?_) ?_ ?_
    · cases hv with
      | name h =>
        exfalso
        rcases h with ⟨z2, e, _, hz2⟩ | h
        · cases e; exact hz2 hz
        · exact not_nt_str h
      | sign _ h =>
        exfalso
        rcases h with ⟨y2, hy2, e⟩ | h
        · cases e
          have h1 := T.bad _ hy2
          obtain ⟨u, hu⟩ := T.good _ hy
          rw [h1] at hu
          cases hu
        · exact not_nt_str h
      | number _ _ h =>
        rcases h with ⟨b, rfl⟩ | h
        · exact ⟨_, rfl, _, false, rfl, .inr ⟨rfl, .inl ⟨b, rfl⟩⟩, _, rfl, q _ _ ⟨rfl, rfl⟩⟩
        · exact ⟨_, rfl, _, false, rfl, .inr ⟨rfl, .inr (h.same s1)⟩, _, rfl, q _ _ ⟨rfl, rfl⟩⟩
      | @fine _ _ i _ _ => exact ⟨_, rfl, _, true, rfl, .inl ⟨rfl, i, rfl⟩, _, rfl, q _ _ ⟨rfl, rfl⟩⟩
    · rintro _ ⟨rfl, e⟩
      obtain rfl : r = some "number" := e
      exact badf_read k
    rintro _ ⟨rfl, e⟩
    obtain rfl : r = none := e
    refine ⟨_, rfl, _, rfl, _, rfl, (by show 3 ≤ sizeLine; decide), fun t ht => ⟨(by show 1 ≤ sizeLine; decide), fun l hl => ?_⟩⟩
    exact filter_tail (Lw.Same.new (Lw.Same.new (Same.refl H1) ht) hl) upd_same fun p G dx fs hp hs hg => k p G dx fs hp hs hg
theorem scIsEmpty : FnScope ["name"] ["name"] (defScope sIsEmpty) := ⟨rfl, rfl, rfl, by decide +kernel, rfl, by decide +kernel, by decide +kernel⟩
theorem ok_isEmpty {f : Addr} {fd : FuncData} (F : FnP K "is_empty" sIsEmpty f fd) (T : TxtS K mg w dS) (cW : Cal P w K mg base CX0 "is_word" 1 ["value"] (spIsWord K))
    (B : BadF P w K mg base C) (M : MakF P w K mg base CF) : FnOk P w K mg base (L2.CX P w) 4 f fd ["name"] (spIsEmpty K C CF) := by
  obtain ⟨tk, hE⟩ := T.empty
  refine F.ok scIsEmpty (fun vs H Q E h => ?_) (fun cdv A outer s0 H vs Q E hr h => ?_)
  · obtain ⟨n, r, rfl, _⟩ := h
    rfl
  · obtain ⟨n, r, rfl, hv, k⟩ := h
    refine ⟨_, pss_cons (ps_if (pt_not (pt_val (pe_cal cW (hr.mono (by decide)) (pa_cons (pv 0) pa_nil)))) (pss_one (ps_badf B rfl hr (takes_of rfl rfl rfl rfl))) pss_nil)
      (pss_one (ps_ret (pe_filter M (hr.mono (by decide)) (pa_cons (pe_lst (pa_cons (pe_tup (pa_cons (pe_glob (v := .str "empty") rfl hE ⟨_, rfl⟩) (pa_cons (pv 0) (pa_cons pe_non pa_nil)))) pa_nil)) pa_nil)))), ?_⟩
    rcases hv with ⟨rfl, h⟩ | ⟨rfl, z, rfl, hz⟩
    · refine sq_if1 (fun b' H' => Same H H' ∧ b' = true) (fun Q q => ?_) ?_ ?_
      · rcases h with ⟨z, rfl, hl, hz⟩ | h
        · exact ⟨_, rfl, _, _, rfl, .inl ⟨z, rfl, hl, rfl⟩, fun H' s => ⟨_, rfl, q _ _ ⟨s, by rw [isWordB_false hz]; rfl⟩⟩⟩
        · exact ⟨_, rfl, _, _, rfl, .inr ⟨rfl, h⟩, fun H' s => ⟨_, rfl, q _ _ ⟨s, rfl⟩⟩⟩
      · rintro H1 ⟨s1, _⟩
        exact badf_read (k.mono s1)
      · rintro _ ⟨_, e⟩
        cases e
    · refine sq_if1 (fun b' H' => Same H H' ∧ b' = false) (fun Q q => ?_) ?_ ?_
      · exact ⟨_, rfl, _, _, rfl, .inl ⟨z, rfl, word_len hz, rfl⟩, fun H' s => ⟨_, rfl, q _ _ ⟨s, by rw [isWordB_true hz]; rfl⟩⟩⟩
      · rintro _ ⟨_, e⟩
        cases e
      · rintro H1 ⟨s1, _⟩
        replace k := k.mono s1
        refine ⟨_, rfl, (by show 3 ≤ sizeLine; decide), fun t ht => ⟨(by show 1 ≤ sizeLine; decide), fun l hl => ?_⟩⟩
        exact filter_tail (Lw.Same.new (Lw.Same.new (Same.refl H1) ht) hl) upd_same fun p G dx fs hp hs hg => k p G dx fs hp hs hg
end
end Lw

set_option Elab.async false
set_option linter.all false
set_option maxRecDepth 100000
set_option maxHeartbeats 2000000
namespace Lw
open PySem PySem.Spec PyProof.Rows L2
abbrev sOdd : Stmt := top 46
abbrev sTold : Stmt := top 47
def oddStrs : List Str := ["", "abcdefghi", "A", "aB", "a1", "a b", " a", "a_", "-"]
inductive Odd (a : Addr) (H : Hp) : V → Prop where
  | str {z : Str} (h : z ∈ oddStrs) : Odd a H (.str z)
  | non : Odd a H .non
  | int (i : Int) : Odd a H (.int i)
  | bl (b : Bool) : Odd a H (.bl b)
  | tup {p : Addr} {xs : List V} (n : p ≠ a) (h : H p = some (.tup xs)) (e : xs = [] ∨ xs = [.str "a"]) : Odd a H (.ref p)
  | lst {p : Addr} {xs : List V} (n : p ≠ a) (h : H p = some (.lst xs)) (e : xs = [] ∨ xs = [.str "a"]) : Odd a H (.ref p)
  | dic {p : Addr} (n : p ≠ a) (h : H p = some (.dK [(.inr "a", .str "b")])) : Odd a H (.ref p)
theorem Odd.keep {a : Addr} {H H' : Hp} {v : V} (k : Keep a H H') (h : Odd a H v) : Odd a H' v := by
  cases h with
  | str h => exact .str h
  | non => exact .non
  | int i => exact .int i
  | bl b => exact .bl b
  | tup n h e => exact .tup n (k _ _ n h) e
  | lst n h e => exact .lst n (k _ _ n h) e
  | dic n h => exact .dic n (k _ _ n h)
theorem odd_notword {K : PySem.W.Frag} {a : Addr} {H : Hp} {v : V} (h : Odd a H v) : (∃ z, v = .str z ∧ z.length ≤ 1000 ∧ ¬ IsWord z) ∨ NotTy K H v "str" := by
  cases h with
  | @str z h =>
    have e : ∀ z ∈ oddStrs, (decide (z.length ≤ 1000) && !isWordB z) = true := by decide +kernel
    have e2 := e z h
    simp only [Bool.and_eq_true, decide_eq_true_eq, Bool.not_eq_true'] at e2
    exact .inl ⟨z, rfl, e2.1, fun hw => by rw [isWordB_true hw] at e2; cases e2.2⟩
  | non => exact .inr ⟨_, ty_non, by decide +kernel⟩
  | int i => exact .inr ⟨_, ty_int i, by decide +kernel⟩
  | bl b => exact .inr ⟨_, ty_bl b, by decide +kernel⟩
  | tup n h e => exact .inr ⟨_, .base (.tup h), by decide +kernel⟩
  | lst n h e => exact .inr ⟨_, .base (.lst h), by decide +kernel⟩
  | dic n h => exact .inr ⟨_, .base (.dK h), by decide +kernel⟩
theorem same_new2 {H : Hp} {p : Addr} {o u : HO} (n : H p = none) : Same H (upd (upd H p o) p u) := fun b x h => by
  rw [upd_ne (ne_of_none h n), upd_ne (ne_of_none h n)]
  exact h
def spOdd : Sp := fun vs H Q _ => ∃ (a : Addr) (n : Nat), vs = [.ref a] ∧ Src H a n ∧ n ≤ 900000000 ∧ ∀ H' v, Keep a H H' → Src H' a (n + 1) → Odd a H' v → Q v H'
theorem Src.same {H H1 : Hp} {a : Addr} {n : Nat} (s : Same H H1) (h : Src H a n) : Src H1 a n := by
  obtain ⟨d, x, t, h1, h2⟩ := h
  exact ⟨d, x, t, s _ _ h1, h2⟩
section
variable {P : Program} {w : World} {K : PySem.W.Frag} {mg : Str → Option Value} {base : Heap}
theorem scOdd : FnScope ["source"] ["source"] (defScope sOdd) := ⟨rfl, rfl, rfl, by decide +kernel, rfl, by decide +kernel, by decide +kernel⟩
theorem ok_odd {f : Addr} {fd : FuncData} (F : FnP K "_law_odd" sOdd f fd) (cO : Cal P w K mg base CX0 "_law_of" 2 ["source", "some"] (spOf K)) : FnOk P w K mg base CX0 3 f fd ["source"] spOdd := by
  refine F.ok scOdd (fun vs H Q E h => ?_) (fun cdv A outer s0 H vs Q E hr h => ?_)
  · obtain ⟨a, n, rfl, _⟩ := h
    rfl
  · obtain ⟨a, n, rfl, hs, hn, k⟩ := h
    refine ⟨_, PSs.nox (pss_one (ps_ret (pe_cal cO hr (pa_cons (pv 0) (pa_cons (pe_lst (pa_cons pe_str (pa_cons pe_str (pa_cons pe_str (pa_cons pe_str (pa_cons pe_str (pa_cons pe_str (pa_cons pe_str (pa_cons pe_str (pa_cons pe_str
      (pa_cons pe_non (pa_cons pe_int (pa_cons pe_int (pa_cons pe_bl (pa_cons pe_bl (pa_cons (pe_un un_neg pe_int) (pa_cons (pe_op op_pow pe_int pe_int) (pa_cons (pe_tup (pa_cons pe_str pa_nil)) (pa_cons (pe_lst (pa_cons pe_str pa_nil))
      (pa_cons (pe_disp (pps_cons pe_str pe_str pps_nil) (by rfl) (by rfl) (fun z => by cases z) (by decide)) (pa_cons (pe_tup pa_nil) (pa_cons (pe_lst pa_nil) pa_nil)))))))))))))))))))))) pa_nil))))), ?_⟩
    refine ⟨_, rfl, _, rfl, _, _, rfl, rfl, ⟨by decide, by decide, by decide⟩, (by show 1 ≤ sizeLine; decide), fun t1 n1 => ⟨(by show 1 ≤ sizeLine; decide), fun l1 n2 => fun d1 n3 => ⟨upd_same, [(.inr "a", .str "b")], rfl, (by show 1 ≤ 15; decide), (by show 0 ≤ sizeLine; decide), fun t2 n4 => ⟨(by show 0 ≤ sizeLine; decide), fun l2 n5 => ⟨(by show 21 ≤ sizeLine; decide), fun L n6 => ?_⟩⟩⟩⟩⟩
    have s1 := Lw.Same.new (o := .tup [.str "a"]) (Same.refl H) n1
    have s2 := Lw.Same.new (o := .lst [.str "a"]) (Same.refl _) n2
    have s3 := same_new2 (o := .dK []) (u := .dK (mergeK [] [(.inr "a", .str "b")])) n3
    have s4 := Lw.Same.new (o := .tup []) (Same.refl _) n4
    have s5 := Lw.Same.new (o := .lst []) (Same.refl _) n5
    have s6 := Lw.Same.new (o := .lst [.str "", .str "abcdefghi", .str "A", .str "aB", .str "a1", .str "a b", .str " a", .str "a_", .str "-", .non, .int 0, .int 1, .bl true, .bl false, .int (-7), .int (10 ^ 30), .ref t1, .ref l1, .ref d1, .ref t2, .ref l2]) (Same.refl _) n6
    have e6 := s6
    have e5 := s5.trans e6
    have e4 := s4.trans e5
    have e3 := s3.trans e4
    have e2 := s2.trans e3
    have e1 := s1.trans e2
    have a1 : t1 ≠ a := hs.ne n1
    have a2 : l1 ≠ a := (hs.same s1).ne n2
    have a3 : d1 ≠ a := (hs.same (s1.trans s2)).ne n3
    have a4 : t2 ≠ a := (hs.same ((s1.trans s2).trans s3)).ne n4
    have a5 : l2 ≠ a := (hs.same (((s1.trans s2).trans s3).trans s4)).ne n5
    have a6 : L ≠ a := (hs.same ((((s1.trans s2).trans s3).trans s4).trans s5)).ne n6
    refine ⟨a, L, n, _, rfl, hs.same e1, by omega, a6, SqL.of upd_same, (fun z => by cases z), (by show 21 ≤ 100000; decide), fun H' x kp sr hx => ?_⟩
    refine k H' x ((Keep.of_same e1).trans kp) sr (Odd.keep kp ?_)
    simp only [List.mem_cons, List.not_mem_nil, or_false] at hx
    rcases hx with rfl | rfl | rfl | rfl | rfl | rfl | rfl | rfl | rfl | rfl | rfl | rfl | rfl | rfl | rfl | rfl | rfl | rfl | rfl | rfl | rfl
    · exact .str (by decide +kernel)
    · exact .str (by decide +kernel)
    · exact .str (by decide +kernel)
    · exact .str (by decide +kernel)
    · exact .str (by decide +kernel)
    · exact .str (by decide +kernel)
    · exact .str (by decide +kernel)
    · exact .str (by decide +kernel)
    · exact .str (by decide +kernel)
    · exact .non
    · exact .int _
    · exact .int _
    · exact .bl _
    · exact .bl _
    · exact .int _
    · exact .int _
    · exact .tup a1 (e2 _ _ upd_same) (.inr rfl)
    · exact .lst a2 (e3 _ _ upd_same) (.inr rfl)
    · exact .dic a3 (e4 _ _ upd_same)
    · exact .tup a4 (e5 _ _ upd_same) (.inl rfl)
    · exact .lst a5 (e6 _ _ upd_same) (.inl rfl)
end
end Lw

set_option Elab.async false
set_option linter.all false
set_option maxRecDepth 100000
set_option maxHeartbeats 2000000
namespace Lw
open PySem PySem.Spec PyProof.Rows L2
abbrev nTold : List Str := ["name", "sign", "number", "test", "chosen", "e"]
def rv (r : Option Str) : V := match r with
  | none => .non
  | some z => .str z
def Judge (K : PySem.W.Frag) (H : Hp) (n s m : V) (t : Bool) (r : Option Str) : Prop :=
  (t = true ∧ ((r = some "name" ∧ ((∃ z, n = .str z ∧ z.length ≤ 1000 ∧ ¬ IsWord z) ∨ NotTy K H n "str")) ∨ (r = none ∧ ∃ z, n = .str z ∧ IsWord z))) ∨ (t = false ∧ Verdict K H n s m r)
def spTold (K : PySem.W.Frag) : Sp := fun vs H Q _ => ∃ (n s m : V) (t : Bool) (r : Option Str), vs = [n, s, m, .bl t] ∧ Judge K H n s m t r ∧ ∀ H', Same H H' → Q (rv r) H'
structure CalX (P : Program) (w : World) (K : PySem.W.Frag) (mg : Str → Option Value) (base : Heap) (x : Str) (k : Nat) (ps : List Str) (sp : Sp) : Prop where
  ex : ∃ f fd, mg x = some (.ref f) ∧ PySem.W.keepIn K (.ref f) = true ∧ FnOk P w K mg base (L2.CX P w) k f fd ps sp ∧ Binds K fd ps [] ∧ KBn K fd ps 0 ps (fun _ ws => ws) (fun _ zs => zs)
structure TxtT (K : PySem.W.Frag) (mg : Str → Option Value) (C CF CR CE : Addr) : Prop where
  isi : mg "isinstance" = none
  gC : mg "BadFilter" = some (.ref C)
  gR : mg "BadRow" = some (.ref CR)
  gE : mg "CopiesError" = some (.ref CE)
  gF : mg "Filter" = some (.ref CF)
  clF : Cls K CF
  haF : PySem.W.findIn K (.ref CF) "__class__" = some (some (.builtin "object.__class__"))
  hnF : PySem.W.specialIn K (.builtin "object.__class__") "__get__" = some (some (.builtin "getset_descriptor.__get__"))
  htF : PySem.W.takesIn K (.builtin "object.__class__") = some true
  hmF : PySem.W.mroIn K CF (.type "object") = some true
  exc : ExcC K C
  xf : XfC K C
  noP : PySem.W.findIn K (.ref C) "part" = some none
  exm : PySem.W.exmOne K (.ref C) (.ref C) = some true
  kR : PySem.W.kitOne K (.ref C) (.ref CR) = some false
  kE : PySem.W.kitOne K (.ref C) (.ref CE) = some true
section
variable {P : Program} {w : World} {K : PySem.W.Frag} {mg : Str → Option Value} {base : Heap} {C CF CR CE : Addr}
theorem kit_self {D : Addr} : PySem.W.kitOne K (.ref D) (.ref D) = some true := by
  unfold PySem.W.kitOne
  rw [if_pos (beq_self_eq_true _)]
theorem told_ok (T : TxtT K mg C CF CR CE) {D : Ends} {σ : L2.St} {G : Hp} {p dx : Addr} {fs : List (Str × V)} (h4 : σ[4]? = some (some (.ref p))) (hG : G p = some (.ins CF dx fs)) (q : D.rt .non G) :
    tRet (tIf (tB (tCB (rIsi K) (tCons (tVar 4) (tCons (tC (.ref CF)) tNil)))) (tC .non) (tC (.str "no filter"))) D σ G :=
  ⟨_, h4, _, _, _, _, true, rfl, .own CF, .base (.ins hG T.clF T.haF T.hnF T.htF T.hmF), kit_self, true, rfl, iteT q⟩
abbrev tsTold (K : PySem.W.Frag) (C CR CE : Addr) : Addr → Value → Option Addr → TS := fun a cls d => tRet (tIf (tOr (tB (tCB (rIsED K cls d a) (tCons (tVar 5) (tCons (tC (.ref CR)) tNil)))) (tNot (tB (tCB (rIsED K cls d a) (tCons (tVar 5) (tCons (tC (.ref CE)) tNil)))))) (tC (.str "wrong")) (tXf a cls d C "part" (tVar 5)))
theorem told_raise (T : TxtT K mg C CF CR CE) {D : Ends} {σ : L2.St} {G : Hp} {d : Addr} {z : Str} (h6 : σ.length = 6) (hG : G d = some (.xd (part (.str z)))) (q : D.rt (.str z) G) :
    wAs K (.ref C) 5 (tsTold K C CR CE) (fun _ _ _ _ => False) D (.ref C) (some d) σ G := by
  have h5 : ∀ a, (σ.set 5 (some (.ref a)))[5]? = some (some (.ref a)) := fun a => List.getElem?_set_self (by omega)
  refine ⟨true, T.exm, fun _ a _ => ?_, fun e => Bool.noConfusion e⟩
  refine ⟨_, h5 a, C, d, .ref CR, .ref CR, false, _, rfl, rfl, T.exc, rfl, fun u r => r, hG, T.kR, false, rfl, iteF ?_⟩
  refine ⟨_, h5 a, C, d, .ref CE, .ref CE, true, _, rfl, rfl, T.exc, rfl, fun u r => r, hG, T.kE, true, rfl, iteF ?_⟩
  refine ⟨_, h5 a, rfl, rfl, d, _, .str z, rfl, hG, ?_, q⟩
  show List.lookup ("part" : Str) [(("part" : Str), V.str z)] = some (V.str z)
  rw [List.lookup_cons_self]
theorem scTold : FnScope nTold ["name", "sign", "number", "test"] (defScope sTold) := ⟨rfl, rfl, rfl, by decide +kernel, rfl, by decide +kernel, by decide +kernel⟩
theorem ok_told {f : Addr} {fd : FuncData} (F : FnP K "_law_told" sTold f fd) (T : TxtT K mg C CF CR CE) (cC : CalX P w K mg base "compare" 4 ["name", "sign", "number"] (spCompare K C CF)) (cE : CalX P w K mg base "is_empty" 4 ["name"] (spIsEmpty K C CF)) :
    FnOk P w K mg base CX0 5 f fd ["name", "sign", "number", "test"] (spTold K) := by
  obtain ⟨f1, fd1, g1, k1, F1, _, b1⟩ := cC.ex
  obtain ⟨f2, fd2, g2, k2, F2, b2, _⟩ := cE.ex
  refine F.ok scTold (fun vs H Q E h => ?_) (fun cdv A outer s0 H vs Q E hr h => ?_)
  · obtain ⟨n, s, m, t, r, rfl, _⟩ := h
    rfl
  · obtain ⟨n, s, m, t, r, rfl, hj, k⟩ := h
    refine ⟨_, PSs.nox (pss_cons (ps_try_as (i := 5) (tb := fun W => tAsg (tIf (tB (tVar 3)) (tCallS (spIsEmpty K C CF) (WE W) (tCons (tVar 0) tNil)) (tCallKS (["name", "sign", "number"] : List Str).length (spCompare K C CF) (fun _ zs => zs) (WE W) (tCons (tVar 0) (tCons (tVar 1) (tCons (tVar 2) tNil))))) (gName 4))
        (ts := tsTold K C CR CE)
        (Wout := fun _ _ _ _ => False) rfl rfl scTold.nd rfl rfl ⟨rfl, by decide, Or.inl T.gC⟩ takes0
        (fun W pn xe tk _ => pss_one (ps_set (i := 4) scTold.nd rfl (Or.inl rfl) (pe_ifExp (pt_val (pv 3)) (by exact (pe_callS F2 (hr.mono (by decide)) rfl g2 k2 b2 (fun σ => passAt tk σ) (by exact (pa_cons (pv 0) pa_nil))))
          (by exact (pe_callKS F1 (hr.mono (by decide)) g1 k1 b1 (fun σ => passAt tk σ) (pk_cons (pv 0) (pk_cons (pv 1) (pk_cons (pv 2) pk_nil))))))))
        (fun a oe cls d pn hz hf => pss_one (ps_ret (pe_ifExp (PW.pt (pw_or (pt_val (pe_callB (call_isED hz hf) (by rfl) T.isi (by decide +kernel) (pa_cons (pv 5) (pa_cons (pe_glob (v := .ref CR) rfl T.gR rfl) pa_nil))))
          (pw_or1 (pt_not (pt_val (pe_callB (call_isED hz hf) (by rfl) T.isi (by decide +kernel) (pa_cons (pv 5) (pa_cons (pe_glob (v := .ref CE) rfl T.gE rfl) pa_nil)))))))) pe_str (pe_xf T.xf T.noP hz hf (pv 5))))))
      (pss_one (ps_ret (pe_ifExp (pt_val (pe_callB call_isi (by rfl) T.isi (by decide +kernel) (pa_cons (pv 4) (pa_cons (pe_glob (v := .ref CF) rfl T.gF rfl) pa_nil)))) pe_non pe_str)))), ?_⟩
    have done : ∀ {σ : L2.St} {D : Ends} {r : Option Str}, σ.length = 6 → (∀ G, Same H G → D.rt (rv r) G) → Told C CF H r (fun v G => (tRet (tIf (tB (tCB (rIsi K) (tCons (tVar 4) (tCons (tC (.ref CF)) tNil)))) (tC .non) (tC (.str "no filter")))) D (σ.set 4 (some v)) G)
        (fun cls d G => wAs K (.ref C) 5 (tsTold K C CR CE) (fun _ _ _ _ => False) { D with nx := (tRet (tIf (tB (tCB (rIsi K) (tCons (tVar 4) (tCons (tC (.ref CF)) tNil)))) (tC .non) (tC (.str "no filter")))) D } cls d σ G) := fun {σ D r} hl q => by
      cases r with
      | none => exact fun p G dx fs _ hs hG => told_ok T (List.getElem?_set_self (by omega)) hG (q G hs)
      | some z => exact fun d G _ hs hG => told_raise T hl hG (q G hs)
    rcases hj with ⟨rfl, hj⟩ | ⟨rfl, hj⟩
    · exact ⟨_, rfl, true, rfl, iteT ⟨_, rfl, n, r, rfl, hj, done (σ := [some n, some s, some m, some (.bl true), none, none]) (D := { nx := fun _ H' => Q .non H', rt := Q }) rfl (fun G hs => k G hs)⟩⟩
    · exact ⟨_, rfl, false, rfl, iteF ⟨_, rfl, _, rfl, _, rfl, rfl, n, s, m, r, rfl, hj, done (σ := [some n, some s, some m, some (.bl false), none, none]) (D := { nx := fun _ H' => Q .non H', rt := Q }) rfl (fun G hs => k G hs)⟩⟩
end
end Lw

set_option Elab.async false
set_option linter.all false
set_option maxRecDepth 100000
set_option maxHeartbeats 4000000
namespace Lw
open PySem PySem.Spec PyProof.Rows L2
abbrev sLaw : Stmt := top 48
abbrev nLaw : List Str := ["script", "place", "source", "signs", "name", "sign", "number", "turn", "kinds", "bad_sign", "bad_number", "one", "two", "three", "due", "k"]
/-- what stood in H0 stands in H, and is not the source at p -/
def Bas (H0 : Hp) (p : Addr) (H : Hp) : Prop := ∀ b o, H0 b = some o → b ≠ p ∧ H b = some o
theorem Bas.keep {H0 H H' : Hp} {p : Addr} (h : Bas H0 p H) (k : Keep p H H') : Bas H0 p H' := fun b o e => ⟨(h b o e).1, k b o (h b o e).1 (h b o e).2⟩
theorem Bas.out {H0 H : Hp} {p : Addr} (h : Bas H0 p H) : Same H0 H := fun b o e => (h b o e).2
inductive Far (a : Addr) (H : Hp) : V → Prop where
  | non : Far a H .non
  | int (i : Int) : Far a H (.int i)
  | bl (b : Bool) : Far a H (.bl b)
  | tup {p : Addr} {xs : List V} (n : p ≠ a) (h : H p = some (.tup xs)) : Far a H (.ref p)
  | lst {p : Addr} {xs : List V} (n : p ≠ a) (h : H p = some (.lst xs)) : Far a H (.ref p)
  | dic {p : Addr} {kvs : List (Key × V)} (n : p ≠ a) (h : H p = some (.dK kvs)) : Far a H (.ref p)
theorem Far.keep {a : Addr} {H H' : Hp} {v : V} (k : Keep a H H') (h : Far a H v) : Far a H' v := by
  cases h with
  | non => exact .non
  | int i => exact .int i
  | bl b => exact .bl b
  | tup n h => exact .tup n (k _ _ n h)
  | lst n h => exact .lst n (k _ _ n h)
  | dic n h => exact .dic n (k _ _ n h)
theorem Far.notStr {K : PySem.W.Frag} {a : Addr} {H : Hp} {v : V} (h : Far a H v) : NotTy K H v "str" := by
  cases h with
  | non => exact ⟨_, ty_non, by decide +kernel⟩
  | int i => exact ⟨_, ty_int i, by decide +kernel⟩
  | bl b => exact ⟨_, ty_bl b, by decide +kernel⟩
  | tup n h => exact ⟨_, .base (.tup h), by decide +kernel⟩
  | lst n h => exact ⟨_, .base (.lst h), by decide +kernel⟩
  | dic n h => exact ⟨_, .base (.dK h), by decide +kernel⟩
def BadS (a : Addr) (H : Hp) (v : V) : Prop := (∃ y ∈ badSigns, v = .str y) ∨ Far a H v
def BadN (a : Addr) (H : Hp) (v : V) : Prop := (∃ z, v = .str z) ∨ (Far a H v ∧ ∀ i, v ≠ .int i)
theorem BadS.keep {a : Addr} {H H' : Hp} {v : V} (k : Keep a H H') (h : BadS a H v) : BadS a H' v := h.imp id (Far.keep k)
theorem BadN.keep {a : Addr} {H H' : Hp} {v : V} (k : Keep a H H') (h : BadN a H v) : BadN a H' v := h.imp id fun z => ⟨z.1.keep k, z.2⟩
theorem BadN.verdict {K : PySem.W.Frag} {a : Addr} {H : Hp} {v : V} (h : BadN a H v) : (∃ b, v = .bl b) ∨ NotTy K H v "int" := by
  rcases h with ⟨z, rfl⟩ | ⟨h, hi⟩
  · exact .inr ⟨_, ty_str z, by decide +kernel⟩
  · cases h with
    | non => exact .inr ⟨_, ty_non, by decide +kernel⟩
    | int i => exact absurd rfl (hi i)
    | bl b => exact .inl ⟨b, rfl⟩
    | tup n h => exact .inr ⟨_, .base (.tup h), by decide +kernel⟩
    | lst n h => exact .inr ⟨_, .base (.lst h), by decide +kernel⟩
    | dic n h => exact .inr ⟨_, .base (.dK h), by decide +kernel⟩
theorem BadS.verdict {K : PySem.W.Frag} {a : Addr} {H : Hp} {v : V} (h : BadS a H v) : (∃ y ∈ badSigns, v = .str y) ∨ NotTy K H v "str" := h.imp id Far.notStr
def One (a : Addr) (H : Hp) (w : Str) (b : Bool) (v : V) : Prop := if b = true then Odd a H v else v = .str w
def Two (a : Addr) (H : Hp) (y : Str) (b : Bool) (v : V) : Prop := if b = true then BadS a H v else v = .str y
def Three (a : Addr) (H : Hp) (i : Int) (b : Bool) (v : V) : Prop := if b = true then BadN a H v else v = .int i
theorem One.keep {a : Addr} {H H' : Hp} {w : Str} {b : Bool} {v : V} (k : Keep a H H') (h : One a H w b v) : One a H' w b v := by
  cases b with
  | true => exact Odd.keep k h
  | false => exact h
theorem Two.keep {a : Addr} {H H' : Hp} {w : Str} {b : Bool} {v : V} (k : Keep a H H') (h : Two a H w b v) : Two a H' w b v := by
  cases b with
  | true => exact BadS.keep k h
  | false => exact h
def res (b0 b1 b2 : Bool) : Option Str := if b0 = true then some "name" else if b1 = true then some "sign" else if b2 = true then some "number" else none
theorem judge_of {K : PySem.W.Frag} {a : Addr} {H : Hp} {w y : Str} {i : Int} {b0 b1 b2 : Bool} {v1 v2 v3 : V} (hw : IsWord w) (hy : y ∈ goodSigns) (h1 : One a H w b0 v1) (h2 : Two a H y b1 v2) (h3 : Three a H i b2 v3) :
    Verdict K H v1 v2 v3 (res b0 b1 b2) := by
  cases b0 with
  | true => exact .name (odd_notword h1)
  | false =>
    obtain rfl : v1 = .str w := h1
    cases b1 with
    | true => exact .sign hw (BadS.verdict h2)
    | false =>
      obtain rfl : v2 = .str y := h2
      cases b2 with
      | true => exact .number hw hy (BadN.verdict h3)
      | false =>
        obtain rfl : v3 = .int i := h3
        exact .fine hw hy
theorem judgeE_of {K : PySem.W.Frag} {a : Addr} {H : Hp} {w : Str} {b0 : Bool} {v1 v2 v3 : V} (hw : IsWord w) (h1 : One a H w b0 v1) : Judge K H v1 v2 v3 true (if b0 = true then some "name" else none) := by
  refine .inl ⟨rfl, ?_⟩
  cases b0 with
  | true => exact .inl ⟨rfl, odd_notword h1⟩
  | false =>
    obtain rfl : v1 = .str w := h1
    exact .inr ⟨rfl, w, rfl, hw⟩
theorem key_word : IsWord ("key" : Str) := (isWordB_iff _).mp (by decide +kernel)
theorem g_name {i : Nat} {v : V} {σ : L2.St} {H : Hp} {Q : L2.St → Hp → Prop} (h : Q (σ.set i (some v)) H) : gName i v σ H Q := h
/-- x, y, z = ..: a tuple is made and taken apart -/
theorem sq_asg3 {te : TE} {u : TS} {D : Ends} {σ : L2.St} {H : Hp} {i j l : Nat} {K : PySem.W.Frag} (P : V → V → V → Hp → Prop) (h : ∀ Q : VK, (∀ t x y z H', H' t = some (.tup [x, y, z]) → P x y z H' → Q (.ref t) H') → te σ H Q)
    (k : ∀ x y z H', P x y z H' → u D (((σ.set i (some x)).set j (some y)).set l (some z)) H') : tSeq (tAsg te (gTup K 3 (gCons (gName i) (gCons (gName j) (gCons (gName l) gNil))))) u D σ H :=
  h _ fun t x y z H' ht p => ⟨t, _, rfl, SqT.of ht, rfl, x, _, rfl, y, _, rfl, z, _, rfl, rfl, k x y z H' p⟩
def spLaw (K : PySem.W.Frag) : Sp := fun vs H Q _ => ∃ (a : Addr) (ns : List Int), vs = [.ref a] ∧ SqL K H a (ns.map V.int) ∧ ns.length ≤ 63 ∧ ∀ H', Q (.bl true) H'
structure Cals (P : Program) (w : World) (K : PySem.W.Frag) (mg : Str → Option Value) (base : Heap) : Prop where
  src : Cal P w K mg base CX0 "_law_source" 1 ["script", "place"] (spSource K)
  draw : Cal P w K mg base CX0 "_law_draw" 1 ["source", "many"] spDraw
  of : Cal P w K mg base CX0 "_law_of" 2 ["source", "some"] (spOf K)
  num : Cal P w K mg base CX0 "_law_number" 2 ["source"] spNumber
  word : Cal P w K mg base CX0 "_law_word" 2 ["source", "taken"] (spWord K)
  odd : Cal P w K mg base CX0 "_law_odd" 3 ["source"] spOdd
  told : Cal P w K mg base CX0 "_law_told" 5 ["name", "sign", "number", "test"] (spTold K)
  range : mg "range" = none
  max : mg "max" = none
  min : mg "min" = none
  len : mg "len" = none
section
variable {P : Program} {w : World} {K : PySem.W.Frag} {mg : Str → Option Value} {base : Heap}
theorem scLaw : FnScope nLaw ["script"] (defScope sLaw) := ⟨rfl, rfl, rfl, by decide +kernel, rfl, by decide +kernel, by decide +kernel⟩
theorem ok_law {f : Addr} {fd : FuncData} (F : FnP K "law" sLaw f fd) (c : Cals P w K mg base) : FnOk P w K mg base CX0 6 f fd ["script"] (spLaw K) := by
  refine F.ok scLaw (fun vs H Q E h => ?_) (fun cdv A outer s0 H vs Q E hr h => ?_)
  · obtain ⟨a, ns, rfl, _⟩ := h
    rfl
  · obtain ⟨a, ns, rfl, hS, hlen, k⟩ := h
    have nd := scLaw.nd
    have h1 : Room 1 _ := hr.mono (by decide)
    have h2 : Room 2 _ := hr.mono (by decide)
    have h3 : Room 3 _ := hr.mono (by decide)
    refine ⟨_, PSs.nox (pss_cons (ps_for PassesOwn.never rfl (pi_range1 rfl c.range (pa_cons (pe_callB (call_max2 rfl) (by rfl) c.max (by decide +kernel) (pa_cons pe_int (pa_cons (pe_callB (call_min2 rfl) (by rfl) c.min (by decide +kernel) (pa_cons pe_int (pa_cons (pe_callB call_len_seq (by rfl) c.len PySem.boot_len (pa_cons (pv 0) pa_nil)) pa_nil))) pa_nil))) pa_nil))
        (pg_name (i := 1) nd rfl (Or.inl rfl))
        (pss_cons (ps_set (i := 2) nd rfl (Or.inr rfl) (pe_cal c.src h1 (pa_cons (pv 0) (pa_cons (pv 1) pa_nil))))
        (pss_cons (ps_set (i := 3) nd rfl (Or.inl rfl) (pe_lst (pa_cons pe_str (pa_cons pe_str (pa_cons pe_str (pa_cons pe_str (pa_cons pe_str (pa_cons pe_str pa_nil))))))))
        (pss_cons (ps_asg (pe_tup (pa_cons (pe_cal c.word h2 (pa_cons (pv 2) (pa_cons (pe_lst pa_nil) pa_nil))) (pa_cons (pe_cal c.of h2 (pa_cons (pv 2) (pa_cons (pv 3) pa_nil))) (pa_cons (pe_cal c.num h2 (pa_cons (pv 2) pa_nil)) pa_nil))))
          (pg_tup (by rfl) (pgs_cons (pg_name (i := 4) nd rfl (Or.inl rfl)) (pgs_cons (pg_name (i := 5) nd rfl (Or.inl rfl)) (pgs_cons (pg_name (i := 6) nd rfl (Or.inr rfl)) pgs_nil)))))
        (pss_cons (ps_if (PW.pt (pw_or (pt_cmpR op_notN (pe_cal c.told hr (pa_cons (pv 4) (pa_cons (pv 5) (pa_cons (pv 6) (pa_cons pe_bl pa_nil))))) pe_non (nomark _)) (pw_or1 (pt_cmpR op_notN (pe_cal c.told hr (pa_cons (pv 4) (pa_cons (pv 5) (pa_cons (pv 6) (pa_cons pe_bl pa_nil))))) pe_non (nomark _)))))
          (pss_one (ps_ret pe_bl)) pss_nil)
        (pss_cons (ps_for PassesOwn.never rfl (pi_range1 rfl c.range (pa_cons pe_int pa_nil)) (pg_name (i := 7) nd rfl (Or.inl rfl))
          (pss_cons (ps_setLc (i := 8) (own := [("k", 15)]) (g := gName 15) (tt := tYes) rfl nd rfl rfl (sw_true rfl rfl rfl (by decide +kernel)) (pi_range1 rfl c.range (pa_cons pe_int pa_nil)) (blkOk_by (N := nLaw) (sc := defScope sLaw) (by decide +kernel))
            (fun _ _ _ _ _ => pg_name (i := 15) nd rfl (Or.inl rfl)) (fun _ _ _ _ _ => pts_nil) (fun _ _ _ _ _ => pe_cmpR op_eq (pe_cal c.draw h1 (pa_cons (pv 2) (pa_cons pe_int pa_nil))) pe_int (nomark _)))
          (pss_cons (ps_set (i := 9) nd rfl (Or.inl rfl) (pe_cal c.of h2 (pa_cons (pv 2) (pa_cons (pe_lst (pa_cons pe_str (pa_cons pe_str (pa_cons pe_str (pa_cons pe_str (pa_cons pe_str (pa_cons pe_str (pa_cons pe_str (pa_cons pe_str
            (pa_cons pe_non (pa_cons pe_int (pa_cons pe_bl (pa_cons (pe_tup (pa_cons pe_str pa_nil)) (pa_cons (pe_lst (pa_cons pe_str pa_nil)) (pa_cons pe_str pa_nil))))))))))))))) pa_nil))))
          (pss_cons (ps_set (i := 10) nd rfl (Or.inl rfl) (pe_cal c.of h2 (pa_cons (pv 2) (pa_cons (pe_lst (pa_cons pe_non (pa_cons pe_bl (pa_cons pe_bl (pa_cons pe_str (pa_cons pe_str (pa_cons (pe_tup (pa_cons pe_int pa_nil)) (pa_cons (pe_lst (pa_cons pe_int pa_nil))
            (pa_cons (pe_disp (pps_cons pe_str pe_int pps_nil) (by rfl) (by rfl) (fun z => by cases z) (by decide)) pa_nil))))))))) pa_nil))))
          (pss_cons (ps_set (i := 11) nd rfl (Or.inl rfl) (pe_ifExp (pt_val (pe_ix ix_list (pv 8) pe_int (fun _ _ => rfl))) (pe_cal c.odd h3 (pa_cons (pv 2) pa_nil)) (pv 4)))
          (pss_cons (ps_set (i := 12) nd rfl (Or.inl rfl) (pe_ifExp (pt_val (pe_ix ix_list (pv 8) pe_int (fun _ _ => rfl))) (pv 9) (pv 5)))
          (pss_cons (ps_set (i := 13) nd rfl (Or.inl rfl) (pe_ifExp (pt_val (pe_ix ix_list (pv 8) pe_int (fun _ _ => rfl))) (pv 10) (pv 6)))
          (pss_cons (ps_set (i := 14) nd rfl (Or.inl rfl) (pe_ifExp (pt_val (pe_ix ix_list (pv 8) pe_int (fun _ _ => rfl))) pe_str pe_non))
          (pss_cons (ps_set (i := 14) nd rfl (Or.inl rfl) (pe_ifExp (pt_val (pe_ix ix_list (pv 8) pe_int (fun _ _ => rfl))) pe_str (pv 14)))
          (pss_cons (ps_set (i := 14) nd rfl (Or.inl rfl) (pe_ifExp (pt_val (pe_ix ix_list (pv 8) pe_int (fun _ _ => rfl))) pe_str (pv 14)))
          (pss_cons (ps_if (pt_cmpR op_ne (pe_cal c.told hr (pa_cons (pv 11) (pa_cons (pv 12) (pa_cons (pv 13) (pa_cons pe_bl pa_nil))))) (pv 14) (nomark _)) (pss_one (ps_ret pe_bl)) pss_nil)
          (pss_one (ps_if (pt_cmpR op_ne (pe_cal c.told hr (pa_cons (pv 11) (pa_cons (pv 12) (pa_cons (pv 13) (pa_cons pe_bl pa_nil))))) (pe_ifExp (pt_val (pe_ix ix_list (pv 8) pe_int (fun _ _ => rfl))) pe_str pe_non) (nomark _)) (pss_one (ps_ret pe_bl)) pss_nil)))))))))))))
        (pss_cons (ps_if (pt_cmpR (op_neD hr.units) (pe_lc (own := [("one", 11)]) (g := gName 11) (tt := tYes) rfl nd (pi_list (pv 3)) (blkOk_by (N := nLaw) (sc := defScope sLaw) (by decide +kernel)) (fun _ _ _ _ _ => pg_name (i := 11) nd rfl (Or.inl rfl)) (fun _ _ _ _ _ => pts_nil)
            (fun _ _ _ _ _ => pe_cal c.told hr (pa_cons pe_str (pa_cons (pv 11) (pa_cons (pv 6) (pa_cons pe_bl pa_nil)))))) (pe_op op_rep (pe_lst (pa_cons pe_non pa_nil)) pe_int) (nomark _)) (pss_one (ps_ret pe_bl)) pss_nil)
        (pss_one (ps_if (PW.pt (pw_or (pt_cmpR op_notN (pe_cal c.told hr (pa_cons pe_str (pa_cons (pv 5) (pa_cons (pv 6) (pa_cons pe_bl pa_nil))))) pe_non (nomark _)) (pw_or1 (pt_cmpR op_notN (pe_cal c.told hr (pa_cons (pv 4) (pa_cons (pv 5) (pa_cons (pv 6) (pa_cons pe_bl pa_nil))))) pe_non (nomark _)))))
          (pss_one (ps_ret pe_bl)) pss_nil))))))))) (pss_one (ps_ret pe_bl))), ?_⟩
    have hb : ∀ L : Int, 0 ≤ L → 1 ≤ (if (if L < 40 then L else 40) > 1 then (if L < 40 then L else 40) else 1) ∧ (if (if L < 40 then L else 40) > 1 then (if L < 40 then L else 40) else 1) ≤ 40 := fun L h => by split <;> split <;> omega
    have hb2 := hb (((ns.map V.int).length : Nat) : Int) (by omega)
    refine ⟨_, rfl, a, _, rfl, .inl hS, _, _, rfl, _, _, rfl, _, rfl, by omega, by omega, ?_⟩
    refine for_range (lo := 0) (fun j σ H' => ∃ v1 v2 v3 v4 v5 v6 v7 v8 v9 v10 v11 v12 v13 v14 v15 : Option V, σ = [some (.ref a), v1, v2, v3, v4, v5, v6, v7, v8, v9, v10, v11, v12, v13, v14, v15] ∧ Same H H') ⟨_, _, _, _, _, _, _, _, _, _, _, _, _, _, _, rfl, Same.refl H⟩ ?_ ?_
    · rintro j σ H' hj ⟨v1, v2, v3, v4, v5, v6, v7, v8, v9, v10, v11, v12, v13, v14, v15, rfl, sH⟩
      have hj2 : (j : Int) < 40 := by omega
      refine g_name ?_
      refine sq_set (fun x H1 => ∃ p, x = .ref p ∧ Bas H p H1 ∧ Src H1 p 0) (fun Q q => ?_) ?_
      · refine ⟨_, rfl, _, rfl, a, ns, _, rfl, sH.seq hS, by omega, by omega, by omega, fun p H1 np s1 hs => q _ _ ⟨p, rfl, fun b o e => ⟨ne_of_none (sH b o e) np, s1 b o (sH b o e)⟩, hs⟩⟩
      rintro _ H1 ⟨p, rfl, B1, S1⟩
      refine sq_set (fun x H2 => ∃ g, x = .ref g ∧ g ≠ p ∧ H2 g = some (.lst (goodSigns.map V.str)) ∧ Bas H p H2 ∧ Src H2 p 0) (fun Q q => ?_) ?_
      · exact ⟨(by show 6 ≤ sizeLine; decide), fun g ng => q _ _ ⟨g, rfl, S1.ne ng, upd_same, B1.keep ((Keep.refl H1).new ng), S1.new ng⟩⟩
      rintro _ H2 ⟨g, rfl, gp, hg, B2, S2⟩
      refine sq_asg3 (fun x y z H3 => ∃ (w' : Str) (y' : Str) (i' : Int), x = .str w' ∧ y = .str y' ∧ z = .int i' ∧ IsWord w' ∧ y' ∈ goodSigns ∧ H3 g = some (.lst (goodSigns.map V.str)) ∧ Bas H p H3 ∧ Src H3 p 19) (fun Q q => ?_) ?_
      · refine ⟨_, rfl, (by show 0 ≤ sizeLine; decide), fun t nt => ?_⟩
        have kt : Keep p H2 _ := (Keep.refl H2).new (o := .lst []) nt
        refine ⟨p, t, 0, [], rfl, S2.new nt, by omega, S2.ne nt, SqL.of upd_same, by decide, fun H3 w' k3 s3 hw _ => ?_⟩
        have k3' := kt.trans k3
        refine ⟨_, rfl, _, rfl, p, g, _, _, rfl, s3, by omega, gp, SqL.of (k3' _ _ gp hg), (by decide +kernel), (by decide +kernel), fun H4 y' k4 s4 hy => ?_⟩
        obtain ⟨y2, hy2, rfl⟩ := List.mem_map.mp hy
        refine ⟨_, rfl, p, _, rfl, s4, by omega, fun H5 i' k5 s5 => ⟨(by show 3 ≤ sizeLine; decide), fun u nu => ?_⟩⟩
        have kk := (k3'.trans k4).trans k5
        exact q u _ _ _ _ upd_same ⟨w', y2, i', rfl, rfl, rfl, hw, hy2, kk.new nu _ _ gp hg, B2.keep (kk.new nu), (s5.new nu).mono (by omega)⟩
      rintro _ _ _ H3 ⟨w', y', i', rfl, rfl, rfl, hw, hy, hg3, B3, S3⟩
      have told0 : ∀ (G : Hp) (t : Bool), Judge K G (.str w') (.str y') (.int i') t none := fun G t => by
        cases t with
        | true => exact .inl ⟨rfl, .inr ⟨rfl, w', rfl, hw⟩⟩
        | false => exact .inr ⟨rfl, .fine hw hy⟩
      refine sq_if1 (fun b H4 => b = false ∧ Same H3 H4) (fun Q q => ?_) ?_ ?_
      · refine ⟨_, rfl, _, rfl, _, rfl, _, _, _, _, none, rfl, told0 _ _, fun G1 s1 => ⟨rfl, _, rfl, iteF ⟨_, rfl, _, rfl, _, rfl, _, _, _, _, none, rfl, told0 _ _, fun G2 s2 => ⟨rfl, _, rfl, q _ _ ⟨rfl, s1.trans s2⟩⟩⟩⟩⟩
      · rintro _ ⟨e, _⟩
        cases e
      rintro H4 ⟨_, s34⟩
      have B4 := B3.keep (Keep.of_same s34)
      have S4 := S3.same s34
      have hg4 := s34 _ _ hg3
      refine ⟨_, rfl, by decide, by decide, ?_⟩
      refine for_range (lo := 0) (fun jj σ G => ∃ u7 u8 u9 u10 u11 u12 u13 u14 u15 : Option V, σ = [some (.ref a), some (.int (0 + (j : Int))), some (.ref p), some (.ref g), some (.str w'), some (.str y'), some (.int i'), u7, u8, u9, u10, u11, u12, u13, u14, u15] ∧ G g = some (.lst (goodSigns.map V.str)) ∧ Bas H p G ∧ Src G p (19 + 10 * jj))
        ⟨_, _, _, _, _, _, _, _, _, rfl, hg4, B4, S4⟩ ?_ ?_
      · rintro jj σ G hjj ⟨u7, u8, u9, u10, u11, u12, u13, u14, u15, rfl, hgG, BG, SG⟩
        have hjj2 : jj < 6 := hjj
        refine g_name ?_
        refine sq_set (fun x G1 => ∃ (kd : Addr) (b0 b1 b2 : Bool), x = .ref kd ∧ kd ≠ p ∧ G1 kd = some (.lst [.bl b0, .bl b1, .bl b2]) ∧ Keep p G G1 ∧ Src G1 p (22 + 10 * jj)) (fun Q q => ?_) ?_
        · refine ⟨_, rfl, by decide, by decide, fun D nD => ?_⟩
          have Dp' : D ≠ p := SG.ne nD
          refine lc_range (lo := 0) (fun i H' => ∃ bs : List Bool, H' D = some (.lst (bs.map V.bl)) ∧ bs.length = i ∧ Keep p G H' ∧ Src H' p (19 + 10 * jj + i)) ⟨[], upd_same, rfl, (Keep.refl G).new nD, SG.new nD⟩ ?_ ?_
          · rintro i H' hi ⟨bs, hd, hl, kk, ss⟩
            have hi2 : i < 3 := hi
            refine ⟨rfl, _, rfl, p, _, _, rfl, ss, by omega, by decide, by decide, fun H5 z k5 s5 z0 z1 => ⟨rfl, _, k5 _ _ Dp' hd, by rw [List.length_map, hl]; exact Nat.lt_trans hi2 (by decide), bs ++ [decide (V.int z = V.int 0)], ?_, by rw [List.length_append, hl]; rfl, ?_, ?_⟩⟩
            · rw [upd_same, List.map_append]; rfl
            · intro b o nb ho
              by_cases hbD : b = D
              · rw [hbD, nD] at ho; cases ho
              · rw [upd_ne hbD]; exact k5 b o nb (kk b o nb ho)
            · obtain ⟨d1, d2, d3, e1, e2⟩ := s5
              exact ⟨d1, d2, d3, by rw [upd_ne Dp'.symm]; exact e1, e2⟩
          · rintro H' ⟨bs, hd, hl, kk, ss⟩
            have hl3 : bs.length = 3 := hl
            match bs, hl3 with
            | [b0, b1, b2], _ => exact q _ _ ⟨D, b0, b1, b2, rfl, Dp', hd, kk, ss.mono (by show 19 + 10 * jj + 3 ≤ 22 + 10 * jj; omega)⟩
        rintro _ G1 ⟨kd, b0, b1, b2, rfl, kdp, hkd1, k1, S1'⟩
        have hg1 := k1 _ _ gp hgG
        have B1' := BG.keep k1
        refine sq_set (fun x G2 => BadS p G2 x ∧ Keep p G1 G2 ∧ Src G2 p (23 + 10 * jj)) (fun Q q => ?_) ?_
        · refine ⟨_, rfl, (by show 1 ≤ sizeLine; decide), fun t1 n1 => ⟨(by show 1 ≤ sizeLine; decide), fun l1 n2 => ⟨(by show 14 ≤ sizeLine; decide), fun L n3 => ?_⟩⟩⟩
          have e1 := Lw.Same.new (o := .tup [.str "<"]) (Same.refl G1) n1
          have e2 := Lw.Same.new (o := .lst [.str "<"]) (Same.refl _) n2
          have e3 := Lw.Same.new (o := .lst [.str "", .str "==", .str "<>", .str "=<", .str "=>", .str " <", .str "<<", .str "!", .non, .int 0, .bl true, .ref t1, .ref l1, .str "lt"]) (Same.refl _) n3
          have a1 : t1 ≠ p := S1'.ne n1
          have a2 : l1 ≠ p := (S1'.same e1).ne n2
          have a3 : L ≠ p := (S1'.same (e1.trans e2)).ne n3
          refine ⟨p, L, _, _, rfl, S1'.same ((e1.trans e2).trans e3), by omega, a3, SqL.of upd_same, (fun z => by cases z), (by show 14 ≤ 100000; decide), fun H' x kp sr hx => ?_⟩
          refine q x H' ⟨BadS.keep kp ?_, (Keep.of_same ((e1.trans e2).trans e3)).trans kp, sr.mono (by omega)⟩
          simp only [List.mem_cons, List.not_mem_nil, or_false] at hx
          rcases hx with rfl | rfl | rfl | rfl | rfl | rfl | rfl | rfl | rfl | rfl | rfl | rfl | rfl | rfl
          · exact .inl ⟨_, by decide +kernel, rfl⟩
          · exact .inl ⟨_, by decide +kernel, rfl⟩
          · exact .inl ⟨_, by decide +kernel, rfl⟩
          · exact .inl ⟨_, by decide +kernel, rfl⟩
          · exact .inl ⟨_, by decide +kernel, rfl⟩
          · exact .inl ⟨_, by decide +kernel, rfl⟩
          · exact .inl ⟨_, by decide +kernel, rfl⟩
          · exact .inl ⟨_, by decide +kernel, rfl⟩
          · exact .inr .non
          · exact .inr (.int _)
          · exact .inr (.bl _)
          · exact .inr (.tup a1 ((e2.trans e3) _ _ upd_same))
          · exact .inr (.lst a2 (e3 _ _ upd_same))
          · exact .inl ⟨_, by decide +kernel, rfl⟩
        rintro x9 G2 ⟨hx9, k2, S2'⟩
        have hkd2 := k2 _ _ kdp hkd1
        refine sq_set (fun x G3 => BadN p G3 x ∧ Keep p G2 G3 ∧ Src G3 p (24 + 10 * jj)) (fun Q q => ?_) ?_
        · refine ⟨_, rfl, (by show 1 ≤ sizeLine; decide), fun t1 n1 => ⟨(by show 1 ≤ sizeLine; decide), fun l1 n2 => fun d1 n3 => ⟨upd_same, [(.inr "a", .int 1)], rfl, (by show 1 ≤ 15; decide), (by show 8 ≤ sizeLine; decide), fun L n4 => ?_⟩⟩⟩
          have e1 := Lw.Same.new (o := .tup [.int 1]) (Same.refl G2) n1
          have e2 := Lw.Same.new (o := .lst [.int 1]) (Same.refl _) n2
          have e3 := same_new2 (o := .dK []) (u := .dK (mergeK [] [(.inr "a", .int 1)])) n3
          have e4 := Lw.Same.new (o := .lst [.non, .bl true, .bl false, .str "1", .str "", .ref t1, .ref l1, .ref d1]) (Same.refl _) n4
          have a1 : t1 ≠ p := S2'.ne n1
          have a2 : l1 ≠ p := (S2'.same e1).ne n2
          have a3 : d1 ≠ p := (S2'.same (e1.trans e2)).ne n3
          have a4 : L ≠ p := (S2'.same ((e1.trans e2).trans e3)).ne n4
          refine ⟨p, L, _, _, rfl, S2'.same (((e1.trans e2).trans e3).trans e4), by omega, a4, SqL.of upd_same, (fun z => by cases z), (by show 8 ≤ 100000; decide), fun H' x kp sr hx => ?_⟩
          refine q x H' ⟨BadN.keep kp ?_, (Keep.of_same (((e1.trans e2).trans e3).trans e4)).trans kp, sr.mono (by omega)⟩
          simp only [List.mem_cons, List.not_mem_nil, or_false] at hx
          rcases hx with rfl | rfl | rfl | rfl | rfl | rfl | rfl | rfl
          · exact .inr ⟨.non, fun _ z => by cases z⟩
          · exact .inr ⟨.bl _, fun _ z => by cases z⟩
          · exact .inr ⟨.bl _, fun _ z => by cases z⟩
          · exact .inl ⟨_, rfl⟩
          · exact .inl ⟨_, rfl⟩
          · exact .inr ⟨.tup a1 (((e2.trans e3).trans e4) _ _ upd_same), fun _ z => by cases z⟩
          · exact .inr ⟨.lst a2 ((e3.trans e4) _ _ upd_same), fun _ z => by cases z⟩
          · exact .inr ⟨.dic a3 (e4 _ _ upd_same), fun _ z => by cases z⟩
        rintro x10 G3 ⟨hx10, k3, S3'⟩
        have hkd3 := k3 _ _ kdp hkd2
        have hx9b := hx9.keep k3
        refine sq_set (fun x G4 => One p G4 w' b0 x ∧ Keep p G3 G4 ∧ Src G4 p (25 + 10 * jj)) (fun Q q => ?_) ?_
        · refine ⟨_, rfl, kd, _, _, _, rfl, rfl, SqL.of hkd3, rfl, b0, rfl, ?_⟩
          cases b0 with
          | true => exact iteT ⟨_, rfl, p, _, rfl, S3', by omega, fun H' v kp sr ho => q v H' ⟨ho, kp, sr.mono (by omega)⟩⟩
          | false => exact iteF ⟨_, rfl, q _ _ ⟨rfl, Keep.refl G3, S3'.mono (by omega)⟩⟩
        rintro x11 G4 ⟨hx11, k4, S4'⟩
        have hkd4 := k4 _ _ kdp hkd3
        have hx9c := hx9b.keep k4
        have hx10c := hx10.keep k4
        refine sq_set (fun x G5 => G4 = G5 ∧ Two p G4 y' b1 x) (fun Q q => ?_) ?_
        · refine ⟨_, rfl, kd, _, _, _, rfl, rfl, SqL.of hkd4, rfl, b1, rfl, ?_⟩
          cases b1 with
          | true => exact iteT ⟨_, rfl, q _ _ ⟨rfl, hx9c⟩⟩
          | false => exact iteF ⟨_, rfl, q _ _ ⟨rfl, rfl⟩⟩
        rintro x12 _ ⟨rfl, hx12⟩
        refine sq_set (fun x G5 => G4 = G5 ∧ Three p G4 i' b2 x) (fun Q q => ?_) ?_
        · refine ⟨_, rfl, kd, _, _, _, rfl, rfl, SqL.of hkd4, rfl, b2, rfl, ?_⟩
          cases b2 with
          | true => exact iteT ⟨_, rfl, q _ _ ⟨rfl, hx10c⟩⟩
          | false => exact iteF ⟨_, rfl, q _ _ ⟨rfl, rfl⟩⟩
        rintro x13 _ ⟨rfl, hx13⟩
        refine sq_set (fun x G5 => G4 = G5 ∧ x = rv (if b2 = true then some "number" else none)) (fun Q q => ?_) ?_
        · refine ⟨_, rfl, kd, _, _, _, rfl, rfl, SqL.of hkd4, rfl, b2, rfl, ?_⟩
          cases b2 with
          | true => exact iteT (q _ _ ⟨rfl, rfl⟩)
          | false => exact iteF (q _ _ ⟨rfl, rfl⟩)
        rintro _ _ ⟨rfl, rfl⟩
        refine sq_set (fun x G5 => G4 = G5 ∧ x = rv (if b1 = true then some "sign" else if b2 = true then some "number" else none)) (fun Q q => ?_) ?_
        · refine ⟨_, rfl, kd, _, _, _, rfl, rfl, SqL.of hkd4, rfl, b1, rfl, ?_⟩
          cases b1 with
          | true => exact iteT (q _ _ ⟨rfl, rfl⟩)
          | false => exact iteF ⟨_, rfl, q _ _ ⟨rfl, rfl⟩⟩
        rintro _ _ ⟨rfl, rfl⟩
        refine sq_set (fun x G5 => G4 = G5 ∧ x = rv (res b0 b1 b2)) (fun Q q => ?_) ?_
        · refine ⟨_, rfl, kd, _, _, _, rfl, rfl, SqL.of hkd4, rfl, b0, rfl, ?_⟩
          cases b0 with
          | true => exact iteT (q _ _ ⟨rfl, rfl⟩)
          | false => exact iteF ⟨_, rfl, q _ _ ⟨rfl, rfl⟩⟩
        rintro _ _ ⟨rfl, rfl⟩
        have sc : ∀ r : Option Str, scal (rv r) (rv r) = true := fun r => by cases r <;> rfl
        have dc : ∀ r : Option Str, (!decide (rv r = rv r)) = false := fun r => by rw [decide_eq_true rfl]; rfl
        refine sq_if1 (fun b G5 => b = false ∧ Same G4 G5) (fun Q q => ?_) ?_ ?_
        · exact ⟨_, rfl, _, rfl, _, rfl, _, _, _, false, res b0 b1 b2, rfl, .inr ⟨rfl, judge_of hw hy hx11 hx12 hx13⟩, fun G5 s5 => ⟨_, rfl, sc _, _, rfl, q _ _ ⟨dc _, s5⟩⟩⟩
        · rintro _ ⟨e, _⟩
          cases e
        rintro G5 ⟨_, s5⟩
        have k5 := Keep.of_same (a := p) s5
        refine s1_if (fun b G6 => b = false ∧ Same G5 G6) (fun Q q => ?_) ?_ ?_
        · refine ⟨_, rfl, _, rfl, _, rfl, _, _, _, true, _, rfl, judgeE_of (v2 := x12) (v3 := x13) hw (One.keep k5 hx11), fun G6 s6 => ?_⟩
          refine ⟨_, rfl, kd, _, _, _, rfl, rfl, SqL.of (s6 _ _ (s5 _ _ hkd4)), rfl, b0, rfl, ?_⟩
          cases b0 with
          | true => exact iteT ⟨rfl, _, rfl, q _ _ ⟨by decide +kernel, s6⟩⟩
          | false => exact iteF ⟨rfl, _, rfl, q _ _ ⟨by decide +kernel, s6⟩⟩
        · rintro _ ⟨e, _⟩
          cases e
        rintro G6 ⟨_, s6⟩
        have kall := (((k1.trans k2).trans k3).trans k4).trans (Keep.of_same (s5.trans s6))
        exact ⟨_, _, _, _, _, _, _, _, _, rfl, kall _ _ gp hgG, BG.keep kall, (S4'.same (s5.trans s6)).mono (by omega)⟩
      · rintro σ G ⟨u7, u8, u9, u10, u11, u12, u13, u14, u15, rfl, hgG, BG, SG⟩
        dsimp only
        have nons : DpAll K G [.non, .non, .non, .non, .non, .non] [.none, .none, .none, .none, .none, .none] := .cons .non (.cons .non (.cons .non (.cons .non (.cons .non (.cons .non .nil)))))
        refine sq_if1 (fun b G1 => b = false ∧ Same G G1) (fun Q q => ?_) ?_ ?_
        · refine ⟨_, rfl, g, rfl, ⟨_, SqL.of hgG⟩, fun D nD => ?_⟩
          have gD : g ≠ D := ne_of_none hgG nD
          refine lc_list (K := K) (a := g) (xs := goodSigns.map V.str) (fun i H' => H' D = some (.lst (List.replicate i V.non)) ∧ Same G H') ⟨upd_same, Lw.Same.new (Same.refl G) nD⟩ (fun i H' _ z => SqL.of (z.2 _ _ hgG)) ?_ ?_
          · rintro i y H' hi ⟨hd, ss⟩
            obtain ⟨y2, hy2, rfl⟩ := List.mem_map.mp (List.mem_of_getElem? hi)
            have hi6 : i < 6 := (List.getElem?_eq_some_iff.mp hi).1
            refine ⟨rfl, _, rfl, _, rfl, _, _, _, false, none, rfl, .inr ⟨rfl, .fine key_word hy2⟩, fun H5 s5 => ⟨_, s5 _ _ hd, by rw [List.length_replicate]; exact Nat.lt_trans hi6 (by decide), ?_, fun b o h => ?_⟩⟩
            · rw [upd_same, List.replicate_succ']; rfl
            · by_cases hbD : b = D
              · rw [hbD, nD] at h; cases h
              · rw [upd_ne hbD]; exact s5 b o (ss b o h)
          · rintro H' ⟨hd, ss⟩
            refine ⟨(by show 1 ≤ sizeLine; decide), fun l nl => ⟨l, _, _, rfl, rfl, upd_same, by decide, by decide, by decide, fun r nr => ?_⟩⟩
            have t1 := Lw.Same.new (o := .lst [.non]) (Same.refl H') nl
            have t2 := Lw.Same.new (o := .lst [.non, .non, .non, .non, .non, .non]) (Same.refl _) nr
            refine ⟨.list [.none, .none, .none, .none, .none, .none], .list [.none, .none, .none, .none, .none, .none], .lst (xs := [.non, .non, .non, .non, .non, .non]) (SqL.of ((t1.trans t2) _ _ hd)) ?_, .lst (xs := [.non, .non, .non, .non, .non, .non]) (SqL.of upd_same) ?_, by decide +kernel, by decide +kernel, _, rfl, q _ _ ⟨by decide +kernel, ss.trans (t1.trans t2)⟩⟩
            · exact .cons .non (.cons .non (.cons .non (.cons .non (.cons .non (.cons .non .nil)))))
            · exact .cons .non (.cons .non (.cons .non (.cons .non (.cons .non (.cons .non .nil)))))
        · rintro _ ⟨e, _⟩
          cases e
        rintro G1 ⟨_, s1⟩
        refine s1_if (fun b G2 => b = false ∧ Same G1 G2) (fun Q q => ?_) ?_ ?_
        · exact ⟨_, rfl, _, rfl, _, _, _, true, none, rfl, .inl ⟨rfl, .inr ⟨rfl, _, rfl, key_word⟩⟩, fun G2 s2 => ⟨rfl, _, rfl, iteF ⟨_, rfl, _, rfl, _, rfl, _, _, _, _, none, rfl, told0 _ _, fun G3 s3 => ⟨rfl, _, rfl, q _ _ ⟨rfl, s2.trans s3⟩⟩⟩⟩⟩
        · rintro _ ⟨e, _⟩
          cases e
        rintro G2 ⟨_, s2⟩
        exact ⟨_, _, _, _, _, _, _, _, _, _, _, _, _, _, _, rfl, BG.out.trans (s1.trans s2)⟩
    · rintro σ H' ⟨v1, v2, v3, v4, v5, v6, v7, v8, v9, v10, v11, v12, v13, v14, v15, rfl, sH⟩
      exact k H'
end
end Lw

set_option Elab.async false
set_option linter.all false
set_option maxRecDepth 100000
set_option maxHeartbeats 0
namespace Hk
open PySem PySem.Spec PyProof.Rows L2
/-! a Hook: facts, defs, tables, one Bool more -/
abbrev Al : Type := He.AlT × Bool
def obG (n : Nat) (fa : List He.Fa) (fn : List He.DefD) (ts : List He.Tab) (own : PySem.W.Frag → Bool) (g : Addr → Option Obj) : Al := (He.obsTG n fa fn ts g, own (He.frG g (He.asD g n)))
def Says (fa : List He.Fa) (fn : List He.DefD) (ts : List He.Tab) (own : PySem.W.Frag → Bool) (w : World) (K : PySem.W.Frag) : Prop := He.SaysT fa fn ts w K ∧ own K = true
def hook (n : Nat) (fa : List He.Fa) (fn : List He.DefD) (ts : List He.Tab) (own : PySem.W.Frag → Bool) : PySem.W.Hook where
  α := Al
  obs := fun s => obG n fa fn ts own s.heap.get?
  val := fun w => (He.valT fn ts w, true)
  says := fun w h => ∃ K : PySem.W.Frag, K.In h ∧ Says fa fn ts own w K
  of := fun _ _ e => ⟨_, He.frG_in, congrArg Prod.fst e, congrArg Prod.snd e⟩
  keeps := fun _ _ _ ⟨K, hK, c⟩ k => ⟨K, PySem.W.Frag.In.keeps hK k, c⟩
theorem obG_eq {n : Nat} {fa : List He.Fa} {fn : List He.DefD} {ts : List He.Tab} {own : PySem.W.Frag → Bool} {g : Addr → Option Obj} {s : Shared} (h : ∀ a, g a = s.heap.get? a) : obG n fa fn ts own g = (hook n fa fn ts own).obs s := by
  rw [show g = s.heap.get? from funext h] <;> rfl
/-- an own error class over ValueError with an own __init__ -/
def oexB (K : PySem.W.Frag) (C : Addr) : Bool := match K.lookup C with
  | some ⟨.type t, _, .cls ⟨_, _, .ref c :: bm, _, _, true, _, _, _, _, false⟩, sl⟩ => (decide (t = "type") && (decide (c = C) && PySem.HandSPX.refsVE bm)) && (match sl.toList with
    | [_, _, _, _, some (.builtin z), _] => decide (z = "ValueError.__new__")
    | _ => false)
  | _ => false
def clsB (K : PySem.W.Frag) (C : Addr) : Bool := oexB K C && (He.eqO (PySem.W.findIn K (.ref C) "__setattr__") (some (some (.builtin "object.__setattr__"))) && (decide (PySem.W.subIn K (.ref C) (.type "BaseException") = some true) &&
  (decide (PySem.W.typeIn K (.ref C) = some (.type "type")) && PySem.W.keepIn K (.ref C))))
theorem oexB_ok {K : PySem.W.Frag} {C : Addr} (h : clsB K C = true) : OexC K C := by
  obtain ⟨h1, h⟩ := He.ba h
  obtain ⟨h2, h⟩ := He.ba h
  obtain ⟨h3, h⟩ := He.ba h
  obtain ⟨h4, h5⟩ := He.ba h
  refine ⟨?_, He.eqO_ok h2, of_decide_eq_true h3, of_decide_eq_true h4, h5⟩
  unfold oexB at h1
  split at h1
  · rename_i t dd nm bs c bm N qn sn sub ab col sl e
    obtain ⟨q1, q2⟩ := He.ba h1
    obtain ⟨q3, q4⟩ := He.ba q1
    obtain ⟨q5, q6⟩ := He.ba q4
    have e1 := of_decide_eq_true q3
    have e2 := of_decide_eq_true q5
    subst e1 e2
    split at q2
    · rename_i k0 k1 k2 k3 z k5 es
      have e3 := of_decide_eq_true q2
      subst e3
      obtain ⟨sl⟩ := sl
      simp only at es
      subst es
      exact ⟨nm, qn, N, bs, bm, sn, sub, ab, col, dd, k0, k1, k2, k3, k5, e, q6⟩
    · cases q2
  · cases h1
/-- isinstance asks its instances rightly -/
def excB (K : PySem.W.Frag) (D : Addr) : Bool := L2.xfB K D && (He.eqO (PySem.W.findIn K (.ref D) "__class__") (some (some (.builtin "object.__class__"))) && (decide (PySem.W.mroIn K D (.type "object") = some true) && getB K))
where getB (K : PySem.W.Frag) : Bool := decide (PySem.W.specialIn K (.builtin "object.__class__") "__get__" = some (some (.builtin "getset_descriptor.__get__"))) && decide (PySem.W.takesIn K (.builtin "object.__class__") = some true)
theorem excB_ok {K : PySem.W.Frag} {D : Addr} (h : excB K D = true) : ExcC K D ∧ XfC K D := by
  obtain ⟨h1, h⟩ := He.ba h
  obtain ⟨h2, h⟩ := He.ba h
  obtain ⟨h3, h⟩ := He.ba h
  obtain ⟨h4, h5⟩ := He.ba h
  have x := L2.xfB_ok h1
  exact ⟨⟨x.ga, x.gg, x.exC, x.hdC, He.eqO_ok h2, of_decide_eq_true h4, of_decide_eq_true h5, of_decide_eq_true h3⟩, x⟩
/-- isinstance of an own class's instances -/
def insB (K : PySem.W.Frag) (D : Addr) : Bool := He.eqO (PySem.W.findIn K (.ref D) "__class__") (some (some (.builtin "object.__class__"))) && (decide (PySem.W.mroIn K D (.type "object") = some true) && excB.getB K)
end Hk

set_option Elab.async false
set_option linter.all false
set_option maxRecDepth 100000
set_option maxHeartbeats 0
namespace Lw
open PySem PySem.Spec PyProof.Rows L2
def dG (x : Str) (st : Stmt) : He.DefD := ⟨(x, none), x, x, defArgs st, defBody st, defScope st, [], []⟩
def dM (C m q : Str) (st : Stmt) : He.DefD := ⟨(C, some m), m, q, defArgs st, defBody st, defScope st, [], []⟩
def fn : List He.DefD := [dG "is_integer" sIsInteger, dG "is_word" sIsWord, dG "copied" sCopied, dM "BadFilter" "__init__" "BadFilter.__init__" sBF, dG "compare" sCompare, dG "is_empty" sIsEmpty, dM "Filter" "__init__" "Filter.__init__" sFI,
  dG "_law_source" sSource, dG "_law_draw" sDraw, dG "_law_of" sOf, dG "_law_number" sNumber, dG "_law_word" sWord, dG "_law_odd" sOdd, dG "_law_told" sTold, dG "law" sLaw]
def glos : List Str := ["is_integer", "is_word", "copied", "BadFilter", "BadRow", "CopiesError", "Filter", "SIGNS", "compare", "is_empty", "_law_source", "_law_draw", "_law_of", "_law_number", "_law_word", "_law_odd", "_law_told", "law"]
def frees : List Str := ["len", "abs", "int", "range", "isinstance", "bool", "str", "list", "tuple", "dict", "all", "max", "min"]
def fa : List He.Fa := glos.map He.Fa.glo ++ (frees.map He.Fa.free ++ [.int "LONGEST_WORD" 8, .str "EMPTY" "empty", .cls "Filter", .noat "Filter" "_terms", .mkr "Filter", .exm "BadFilter" "BadFilter" true, .meth "BadFilter" "__init__"])
def tabs : List He.Tab := [(fun K => He.ga K "SIGNS", goodSigns)]
def own (K : PySem.W.Frag) : Bool := Hk.clsB K (He.ga K "BadFilter") && (He.eqO (PySem.W.findIn K (.ref (He.ga K "BadFilter")) "part") (some none) && (Hk.excB K (He.ga K "BadFilter") && (Hk.insB K (He.ga K "Filter") &&
  (decide (PySem.W.kitOne K (.ref (He.ga K "BadFilter")) (.ref (He.ga K "BadRow")) = some false) && (decide (PySem.W.kitOne K (.ref (He.ga K "BadFilter")) (.ref (He.ga K "CopiesError")) = some true) &&
  (goodSigns.all (fun z => match PySem.W.nsIn K (He.ga K "SIGNS") z with | some (some _) => true | _ => false) && badSigns.all (fun z => He.eqO (PySem.W.nsIn K (He.ga K "SIGNS") z) (some none))))))))
abbrev R : PySem.W.OpenRow := PySem.W.OpenLaw.row PySem.Challenge.rw_filteredcopies_k07_comparisons_refused
abbrev qv : Program := PySem.W.view R.prog [48]
def names1 : List Str := ["_wall", "LONGEST_WORD", "is_integer", "is_word", "copied", "CopiesError", "BadColumn", "BadTable", "BadRow", "BadFilter", "NoColumn", "MANY_ENTRIES", "samples", "cells_between"]
def names2 : List Str := ["slices", "spread", "Column", "Table", "SIGNS", "EMPTY", "EVERY", "NOTHING", "NOT", "AND", "OR", "XOR", "weigh", "_joined"]
def names3 : List Str := ["_tested", "_cell_truth", "compare", "is_empty", "Filter", "_same_entries", "_law_source", "_law_draw", "_law_of", "_law_number", "_law_word", "_law_odd", "_law_told"]
def names : List Str := names1 ++ (names2 ++ (names3))
abbrev hk : PySem.W.Hook := Hk.hook 6 fa fn tabs own
def ob (s : PySem.W.SharedT) : Hk.Al := Hk.obG 6 fa fn tabs own (HandSHeadRun.getT s)
theorem ob_eq (s : PySem.W.SharedT) : ob s = hk.obs s.abs := Hk.obG_eq (HandSHeadRun.getT_eq s)
theorem run (w : World) : HandSHeadRun.RunEq R qv hk ob 9000 names w :=
  PySem.W.byRow2 "special-get-raises" (P := fun w => HandSHeadRun.RunEq R qv hk ob 9000 names w) (fun w => by intro os; kernel_rfl) (fun w => by intro os; kernel_rfl) w
end Lw

set_option Elab.async false
set_option linter.all false
set_option maxRecDepth 100000
set_option maxHeartbeats 4000000
namespace Lw
open PySem PySem.Spec PyProof.Rows L2
section
variable {K : PySem.W.Frag} {h : Heap} {mg : Str → Option Value} {w : World}
theorem f_glo (X : K.In h) (G : h.Ns mainGlobals mg) (c : Hk.Says fa fn tabs own w K) {x : Str} (hx : x ∈ glos) : mg x = some (.ref (He.ga K x)) := by
  obtain ⟨i, hi⟩ := List.getElem?_of_mem hx
  have c1 := (He.ba (show ((fa.all fun f => f.ok K) && fn.all fun d => d.ok K) = true from congrArg (fun z : He.AlD => z.1) c.1.d)).1
  exact He.glo_ok X G (List.all_eq_true.mp c1 (.glo x) (List.mem_append_left _ (List.mem_map_of_mem hx)))
theorem f_free (X : K.In h) (G : h.Ns mainGlobals mg) (c : Hk.Says fa fn tabs own w K) {x : Str} (hx : x ∈ frees) : mg x = none := by
  have c1 := (He.ba (show ((fa.all fun f => f.ok K) && fn.all fun d => d.ok K) = true from congrArg (fun z : He.AlD => z.1) c.1.d)).1
  exact He.free_ok X G (List.all_eq_true.mp c1 (.free x) (List.mem_append_right _ (List.mem_append_left _ (List.mem_map_of_mem hx))))
theorem f_fact (c : Hk.Says fa fn tabs own w K) {f : He.Fa} (hf : f ∈ fa) : f.ok K = true := by
  have c1 := (He.ba (show ((fa.all fun f => f.ok K) && fn.all fun d => d.ok K) = true from congrArg (fun z : He.AlD => z.1) c.1.d)).1
  exact List.all_eq_true.mp c1 f hf
end
theorem kb_of {K : PySem.W.Frag} {x qual : Str} {params : Arguments} {body : List Stmt} {scope : Scope} {kws : List (Str × V)} {f : Addr} {fd : FuncData} {ps : List Str} (F : FunD K x qual params body scope [] kws f fd)
    (h : ∀ (kV doc pm : Value) (an : Option Addr) (cdv ct : Value) (ws : List Value), ws.length = ps.length → bindArgs (PySem.W.fnOf x qual params body scope .none kV doc pm an cdv ct) ⟨[], ps.zip ws⟩ = pure (ps.zip ws)) : KBn K fd ps 0 ps (fun _ ws => ws) (fun _ zs => zs) := by
  obtain ⟨oc, od, dV, kV, doc, pm, an, cdv, ct, osl, rfl, lk, hcd, hD, hK⟩ := F.ex
  rcases hD with ⟨_, rfl⟩ | ⟨e, _⟩
  · exact ⟨fun s us ws _ l1 l2 => by
      obtain rfl : us = [] := List.length_eq_zero_iff.mp l1
      exact .of_eq (h kV doc pm an cdv ct ws l2), fun _ r => r⟩
  · exact absurd rfl e
theorem facts {P : Program} {w : World} {K : PySem.W.Frag} {h : Heap} {mg : Str → Option Value} {f : Addr} (X : K.In h) (G : h.Ns mainGlobals mg) (hfa : mg ("law" : Str) = some (.ref f)) (c : Hk.Says fa fn tabs own w K) :
    ∃ fd : FuncData, (∀ (s : Shared) (v : Value), BindsTo s fd ⟨[v], []⟩ [("script", v)]) ∧ ∀ base : Heap, K.In base → base.Ns mainGlobals mg → FnOk P w K mg base CX0 6 f fd ["script"] (spLaw K) := by
  have gl : ∀ {x : Str}, x ∈ glos → mg x = some (.ref (He.ga K x)) := fun hx => f_glo X G c hx
  have fr : ∀ {x : Str}, x ∈ frees → mg x = none := fun hx => f_free X G c hx
  obtain ⟨o1, o⟩ := He.ba c.2
  obtain ⟨o2, o⟩ := He.ba o
  obtain ⟨o3, o⟩ := He.ba o
  obtain ⟨o4, o⟩ := He.ba o
  obtain ⟨o5, o⟩ := He.ba o
  obtain ⟨o6, o⟩ := He.ba o
  obtain ⟨o7, o8⟩ := He.ba o
  have oex := Hk.oexB_ok o1
  have noP : PySem.W.findIn K (.ref (He.ga K "BadFilter")) "part" = some none := He.eqO_ok o2
  obtain ⟨exc, xf⟩ := Hk.excB_ok o3
  obtain ⟨i1, i⟩ := He.ba o4
  obtain ⟨i2, i⟩ := He.ba i
  obtain ⟨i3, i4⟩ := He.ba i
  have d := c.1.d
  obtain ⟨d0, D0⟩ := d.def_ 0 (d := dG "is_integer" sIsInteger) rfl
  obtain ⟨d1, D1⟩ := d.def_ 1 (d := dG "is_word" sIsWord) rfl
  obtain ⟨d2, D2⟩ := d.def_ 2 (d := dG "copied" sCopied) rfl
  obtain ⟨d3, D3⟩ := d.def_ 3 (d := dM "BadFilter" "__init__" "BadFilter.__init__" sBF) rfl
  obtain ⟨d4, D4⟩ := d.def_ 4 (d := dG "compare" sCompare) rfl
  obtain ⟨d5, D5⟩ := d.def_ 5 (d := dG "is_empty" sIsEmpty) rfl
  obtain ⟨d6, D6⟩ := d.def_ 6 (d := dM "Filter" "__init__" "Filter.__init__" sFI) rfl
  obtain ⟨d7, D7⟩ := d.def_ 7 (d := dG "_law_source" sSource) rfl
  obtain ⟨d8, D8⟩ := d.def_ 8 (d := dG "_law_draw" sDraw) rfl
  obtain ⟨d9, D9⟩ := d.def_ 9 (d := dG "_law_of" sOf) rfl
  obtain ⟨d10, D10⟩ := d.def_ 10 (d := dG "_law_number" sNumber) rfl
  obtain ⟨d11, D11⟩ := d.def_ 11 (d := dG "_law_word" sWord) rfl
  obtain ⟨d12, D12⟩ := d.def_ 12 (d := dG "_law_odd" sOdd) rfl
  obtain ⟨d13, D13⟩ := d.def_ 13 (d := dG "_law_told" sTold) rfl
  obtain ⟨d14, D14⟩ := d.def_ 14 (d := dG "law" sLaw) rfl
  have e := hfa.symm.trans (gl (x := "law") (by decide +kernel))
  cases e
  refine ⟨d14, fun s v => FunD.bindsA (ps := ["script"]) D14 (fun _ _ _ _ _ _ us hl => match us, hl with | [_], _ => rfl) s [v] rfl, fun base KB GB => ?_⟩
  have TP : TxtP mg := ⟨fr (by decide +kernel), fr (by decide +kernel), fr (by decide +kernel), fr (by decide +kernel), fr (by decide +kernel), fr (by decide +kernel), fr (by decide +kernel), fr (by decide +kernel), fr (by decide +kernel), He.int_ok X G (f_fact c (by unfold fa; simp))⟩
  have TD : TxtD K mg (He.ga K "_law_source") (He.ga K "_law_draw") (He.ga K "_law_of") (He.ga K "_law_number") :=
    ⟨fr (by decide +kernel), fr (by decide +kernel), fr (by decide +kernel), fr (by decide +kernel), gl (by decide +kernel), D7.kp, gl (by decide +kernel), D8.kp, gl (by decide +kernel), D9.kp, gl (by decide +kernel), D10.kp⟩
  have cI : Cal P w K mg base CX0 "is_integer" 1 ["value"] (spIsInteger K) := ⟨_, _, gl (by decide +kernel), D0.kp, ok_isInteger D0 TP, D0.bindsN fun _ _ _ _ _ _ us hl => match us, hl with | [_], _ => rfl⟩
  have cW : Cal P w K mg base CX0 "is_word" 1 ["value"] (spIsWord K) := ⟨_, _, gl (by decide +kernel), D1.kp, ok_isWord D1 TP, D1.bindsN fun _ _ _ _ _ _ us hl => match us, hl with | [_], _ => rfl⟩
  have cC : Cal P w K mg base CX0 "copied" 1 ["value"] (spCopied K) := ⟨_, _, gl (by decide +kernel), D2.kp, ok_copied D2 TP, D2.bindsN fun _ _ _ _ _ _ us hl => match us, hl with | [_], _ => rfl⟩
  have TB : TxtB K mg (He.ga K "BadFilter") := ⟨oex, noP, gl (by decide +kernel)⟩
  have MB := He.meth_ok (f_fact c (f := .meth "BadFilter" "__init__") (by unfold fa; simp))
  have B : BadF P w K mg base (He.ga K "BadFilter") := ⟨TB, _, _, MB.at_, beq_iff_eq.mp MB.fn, ok_bf D3 TB cC, D3.bindsN fun _ _ _ _ _ _ us hl => match us, hl with | [_, _], _ => rfl⟩
  have TF : TxtF K mg (He.ga K "Filter") := ⟨He.cls_ok (f_fact c (by unfold fa; simp)), He.noat_ok (f_fact c (by unfold fa; simp)), gl (by decide +kernel), fr (by decide +kernel)⟩
  have MF : MakF P w K mg base (He.ga K "Filter") := ⟨TF, _, _, He.mkr_ok (f_fact c (by unfold fa; simp)), ok_fi D6 TF, D6.bindsN fun _ _ _ _ _ _ us hl => match us, hl with | [_, _], _ => rfl⟩
  have good : ∀ y ∈ goodSigns, ∃ u, PySem.W.nsIn K (He.ga K "SIGNS") y = some (some u) := fun y hy => by
    have z := List.all_eq_true.mp o7 y hy
    split at z
    · rename_i u e
      exact ⟨_, e⟩
    · cases z
  have TS : TxtS K mg w (He.ga K "SIGNS") := ⟨gl (by decide +kernel), c.1.tab 0 (t := (fun K => He.ga K "SIGNS", goodSigns)) rfl, good, fun y hy => He.eqO_ok (List.all_eq_true.mp o8 y hy), fr (by decide +kernel), fr (by decide +kernel), He.str_ok X G (f_fact c (by unfold fa; simp))⟩
  have xC : CalX P w K mg base "compare" 4 ["name", "sign", "number"] (spCompare K (He.ga K "BadFilter") (He.ga K "Filter")) := ⟨_, _, gl (by decide +kernel), D4.kp, ok_compare D4 TS cW cI B MF, D4.bindsN (fun _ _ _ _ _ _ us hl => match us, hl with | [_, _, _], _ => rfl), kb_of D4 fun _ _ _ _ _ _ ws hl => match ws, hl with | [_, _, _], _ => rfl⟩
  have xE : CalX P w K mg base "is_empty" 4 ["name"] (spIsEmpty K (He.ga K "BadFilter") (He.ga K "Filter")) := ⟨_, _, gl (by decide +kernel), D5.kp, ok_isEmpty D5 TS cW B MF, D5.bindsN (fun _ _ _ _ _ _ us hl => match us, hl with | [_], _ => rfl), kb_of D5 fun _ _ _ _ _ _ ws hl => match ws, hl with | [_], _ => rfl⟩
  have TT : TxtT K mg (He.ga K "BadFilter") (He.ga K "Filter") (He.ga K "BadRow") (He.ga K "CopiesError") :=
    ⟨fr (by decide +kernel), gl (by decide +kernel), gl (by decide +kernel), gl (by decide +kernel), gl (by decide +kernel), TF.cl, He.eqO_ok i1, of_decide_eq_true i3, of_decide_eq_true i4, of_decide_eq_true i2, exc, xf, noP, He.exm_ok (f_fact c (by unfold fa; simp)), of_decide_eq_true o5, of_decide_eq_true o6⟩
  have cDr := cal_draw (P := P) (w := w) (base := base) TD ⟨_, _, TD.gD, D8⟩
  have cOf : Cal P w K mg base CX0 "_law_of" 2 ["source", "some"] (spOf K) := ⟨_, _, gl (by decide +kernel), D9.kp, ok_of D9 TD cDr, D9.bindsN fun _ _ _ _ _ _ us hl => match us, hl with | [_, _], _ => rfl⟩
  refine ok_law D14 ⟨⟨_, _, gl (by decide +kernel), D7.kp, ok_source D7 TD, D7.bindsN fun _ _ _ _ _ _ us hl => match us, hl with | [_, _], _ => rfl⟩, cDr, cOf,
    ⟨_, _, gl (by decide +kernel), D10.kp, ok_number D10 TD cDr, D10.bindsN fun _ _ _ _ _ _ us hl => match us, hl with | [_], _ => rfl⟩,
    ⟨_, _, gl (by decide +kernel), D11.kp, ok_word D11 TD cDr, D11.bindsN fun _ _ _ _ _ _ us hl => match us, hl with | [_, _], _ => rfl⟩,
    ⟨_, _, gl (by decide +kernel), D12.kp, ok_odd D12 cOf, D12.bindsN fun _ _ _ _ _ _ us hl => match us, hl with | [_], _ => rfl⟩,
    ⟨_, _, gl (by decide +kernel), D13.kp, ok_told D13 TT xC xE, D13.bindsN fun _ _ _ _ _ _ us hl => match us, hl with | [_, _, _, _], _ => rfl⟩,
    fr (by decide +kernel), fr (by decide +kernel), fr (by decide +kernel), fr (by decide +kernel)⟩
end Lw

open PySem PySem.W PyProof.Rows in
theorem PySem.Challenge.cw_filteredcopies_k07_comparisons_refused_holds : PySem.Challenge.rw_filteredcopies_k07_comparisons_refused.Holds := by
  w_on; o_law
  refine HandSHeadRun.head_any (r := Lw.R) (q := Lw.qv) (H := Lw.hk) (ob := Lw.ob) (M := 9000) (loose := Lw.names) (d := HandSHeadRun.topDef Lw.R.prog 48) (kwd := []) Lw.ob_eq
    (by kernel_rfl) (fun s => by kernel_rfl) Lw.run (by kernel_rfl) (by kernel_rfl) (by kernel_rfl) (by rfl) (by first | assumption | decide +kernel) (by decide +kernel) ⟨rfl, rfl, rfl, rfl, rfl, by decide +kernel⟩ ?hw ?hc
  case hw => w_witness2
  case hc =>
    refine L2.walk_ofE (l := PySem.Challenge.rw_filteredcopies_k07_comparisons_refused) (n := 63) (k := 6) (x := "script") (CX := L2.CX0) rfl (by decide) (by kernel_rfl) ⟨rfl, by decide, by decide⟩ ?F (fun _ _ _ _ z => z)
    intro w mg fa h Y G hmg0
    obtain ⟨K, KX, c⟩ := Y
    have hmg : mg ("law" : PySem.Str) = some (.ref fa) := by
      have e : (HandSHeadRun.topDef Lw.R.prog 48).name = ("law" : PySem.Str) := by kernel_rfl
      rw [← e]
      exact hmg0
    obtain ⟨fd, hb, hF⟩ := Lw.facts (P := (PySem.Challenge.rw_filteredcopies_k07_comparisons_refused).prog) (w := w) KX G hmg c
    exact ⟨K, fd, Lw.spLaw K, KX, hb, fun H a ns hl _ hS => ⟨a, ns, rfl, hS, hl, fun _ => rfl⟩, hF⟩
