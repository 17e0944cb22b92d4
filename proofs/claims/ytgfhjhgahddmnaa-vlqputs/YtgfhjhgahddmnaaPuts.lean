/-
  The statement VlqPuts is proved: any number is the bytes, or refused, as the document says; so is how many bytes it has; so are many. For every int and every slice of ints; no condition.
-/
import Derived.Test.YtgfhjhgahddmnaaRput
import Derived.OpenShut
import Derived.ShutString
import Derived.ChangeOld
namespace Go.Proofs.Ytgfhjhgahddmnaa.vlqPuts
open Go.ChangeShapes Go.WideShapes Go.ChangeAt Go.RowKit
set_option linter.unusedVariables false

theorem nil_post (w w' : World) (k : IntKind) (e : Ending) (he : e = .returned (.tuple #[.slice none 0 0, .int .i64 1])) (hb : Below w.heap.size w w') : PutPost w k [] 1 e w' :=
  ⟨none, 0, he, ⟨Sl.nil, Nat.le_refl _⟩, hb⟩

theorem both_put (n : Int) : ∃ (xs : List Int) (er sz : Int), ∀ W : World, Hid (Calls Try.prog 12 #[.int .i64 n] W (PutPost W .u8 xs er)) ∧ Hid (Calls Try.prog 13 #[.int .i64 n] W (PutPost W .u8 xs er)) ∧
    Hid (Calls Try.prog 16 #[.int .i64 n] W (fun e w' => e = .returned (.int .i64 sz) ∧ W = w')) ∧ Hid (Calls Try.prog 17 #[.int .i64 n] W (fun e w' => e = .returned (.int .i64 sz) ∧ W = w')) := by
  by_cases h : okB n = true
  · obtain ⟨h0, h1⟩ := okB_bd h
    exact ⟨vb n 0, 0, _, fun W => ⟨put_yes n W h0 h1, rput_yes n W h0 h1, size_yes n W h0 h1, rsize_yes n W h0 h1⟩⟩
  · have h' := okB_nb (n := n) (by simpa using h)
    exact ⟨[], 1, 0, fun W => ⟨(put_no n W h').mono fun e w' ⟨he, hw⟩ => nil_post W w' .u8 e he (hw ▸ Below.refl _ _), (rput_no n W h').mono fun e w' ⟨he, hw⟩ => nil_post W w' .u8 e he (hw ▸ Below.refl _ _), size_no n W h', rsize_no n W h'⟩⟩

theorem all_post {w w' : World} {l : List Int} {e : Ending} (h : AllPost w l e w') : PutPost w .u8 (if okAll l then pb l else []) (if okAll l then 0 else 1) e w' := by
  rcases h with ⟨hk, h⟩ | ⟨hk, he, hb⟩
  · rw [hk]; exact h
  · rw [hk]; exact nil_post w w' .u8 e he hb

set_option maxHeartbeats 800000 in
theorem walk (a0 : Int) (A1 : Option Addr) (c1 : Nat) (x1 : List Int) (w : World) (w0 : (Lit.int .i64 a0).wf = true) (s1 : Sl w w.heap.size .i64 A1 x1) (b1 : ∀ n ∈ x1, (Lit.int .i64 n).wf = true) :
    Calls Try.prog 3 #[.int .i64 a0, .slice A1 x1.length c1] w (UpPost w) := by
  have HA := Lib.hid (awake_any w)
  clear b1 w0
  by_cases h0 : x1.length ≤ 300
  · obtain ⟨xs, er, sz, HB⟩ := both_put a0
    have HP : ∀ W : World, Below w.heap.size w W → Hid (Calls Try.prog 14 #[.slice A1 x1.length c1] W (PutPost W .u8 (if okAll x1 then pb x1 else []) (if okAll x1 then 0 else 1))) := fun W hb =>
      (putall_any A1 c1 x1 W (by omega) ((s1.below hb).mono hb.size)).mono fun _ _ h => all_post h
    have HR : ∀ W : World, Below w.heap.size w W → Hid (Calls Try.prog 15 #[.slice A1 x1.length c1] W (PutPost W .u8 (if okAll x1 then pb x1 else []) (if okAll x1 then 0 else 1))) := fun W hb =>
      (rputall_any A1 c1 x1 W (by omega) ((s1.below hb).mono hb.size)).mono fun _ _ h => all_post h
    generalize (if okAll x1 = true then pb x1 else []) = ys at *
    generalize (if okAll x1 = true then (0 : Int) else 1) = er' at *
    have P1 := fun W => (HB W).1
    have P2 := fun W => (HB W).2.1
    have P3 := fun W => (HB W).2.2.1
    have P4 := fun W => (HB W).2.2.2
    clear HB
    go_enter Try.func3, Try.ntmps3
    go_wp2_with (first | (go_at_call 11; refine HA.out.mono ?_; rintro e wa ⟨rfl, hba⟩) | (go_at_call 12; ((with_reducible refine (P1 _).out.mono ?_); rintro e wb ⟨Ab, cb, rfl, ⟨hsb, hcb⟩, hbb⟩; have qb := hba.trans (hbb.mono hba.size))) | (go_at_call 13; ((with_reducible refine (P2 _).out.mono ?_); rintro e wc ⟨Ac, cc, rfl, ⟨hsc, hcc⟩, hbc⟩; have qc := qb.trans (hbc.mono qb.size))) | (go_at_call 14; ((with_reducible refine (HP _ qc).out.mono ?_); rintro e wd ⟨Ad, cd, rfl, ⟨hsd, hcd⟩, hbd⟩; have qd := qc.trans (hbd.mono qc.size))) | (go_at_call 15; ((with_reducible refine (HR _ qd).out.mono ?_); rintro e we ⟨Ae, ce, rfl, ⟨hse, hce⟩, hbe⟩; have qe := qd.trans (hbe.mono qd.size); have cve := str_of hse ce we (fun p hp => rfl); have cvd := str_of hsd cd we (fun p hp => hbe.cell hp); have dc := hbd.trans (hbe.mono hbd.size); have cvc := str_of hsc cc we (fun p hp => dc.cell hp); have db := hbc.trans (dc.mono hbc.size); have cvb := str_of hsb cb we (fun p hp => db.cell hp); clear hsb hsc hsd hse dc db)) | (go_at_call 16; ((with_reducible refine (P3 _).out.mono ?_); rintro e w' ⟨rfl, rfl⟩)) | (go_at_call 17; ((with_reducible refine (P4 _).out.mono ?_); rintro e w' ⟨rfl, rfl⟩)))
    go_ret
    exact ⟨rfl, qe⟩
  · have hd : 300 < x1.length := by omega
    go_enter Try.func3, Try.ntmps3
    go_wp2_with (go_at_call 11; refine HA.out.mono ?_; rintro e wa ⟨rfl, hba⟩)
    go_ret
    exact ⟨rfl, hba⟩

theorem own : ownKnob Try.prog.godebug = none := by kernel_rfl
theorem laidOut : laidOutB Try.prog = true := by kernel_rfl

set_option maxRecDepth 100000 in
theorem lifted (os : Os) (started : os.Started) (H : Type) (enc : TypeId × Value → H) :
    ReturnsInHanded {} Try.checked os 3 .any (Rows.vlqPutsSpec.pre6 enc Try.prog Try.f3 Rows.vlqPutsRow.domain false) (Rows.vlqPutsSpec.post enc Try.prog Try.f3 false true false false) := by
  refine returnsInHanded_of_change (C := Try.checked) own started (by kernel_rfl) Try.func3
    (ChangeSpec.witness6 (enc := enc) (C := Try.checked) false ⟨#[], #[.int .i64 0, .slice none 0 0], []⟩ 8 (by kernel_rfl) (by kernel_rfl) (by kernel_rfl) (by kernel_rfl)) ?_
  intro W base args ds gs before hval0 hW hcnd _
  have hval : ∀ (j : Nat) t v, Try.f3.params[j]? = some t → args[j]? = some v → Value.okWide Try.prog W .any base t v := hval0
  have hW' := hW
  obtain ⟨p, q, hA0, hV, rfl, hfz, hnd⟩ := hW
  have hA : DataW.TrodAll enc Try.prog W 0 (fun _ => true) true Try.f3.params.toList args.toList ds p := hA0
  rw [Try.params3] at hA hval
  obtain ⟨v0, vs0, d0, ds0, p0, q0, hargs, rfl, rfl, h0, r0⟩ := trodAll_cons hA
  obtain ⟨v1, vs1, d1, ds1, p1, q1, rfl, rfl, rfl, h1, r1⟩ := trodAll_cons r0
  obtain ⟨rfl, rfl, rfl⟩ := trodAll_nil r1
  obtain rfl : args = #[v0, v1] := by cases args; simp_all
  obtain ⟨rfl, rfl⟩ := trodVars_none hV
  obtain ⟨a0, rfl, rfl, rfl, w0⟩ := open_int Try.underlying3 (hval 0 3 v0 rfl rfl) h0
  obtain ⟨A1, len1, c1, rfl⟩ := okWide_slice Try.underlying22 (hval 1 22 v1 rfl rfl)
  have k1 := h1
  have lt1 : ∀ x ∈ p1, x.block < W.heap.size := by obtain ⟨m, hm⟩ := k1; exact DataW.trod_lt m _ _ _ hm
  obtain ⟨x1, e1, s1, m1, b1⟩ : ∃ xs : List Int, xs.length = len1 ∧ Sl W W.heap.size .i64 A1 xs ∧ len1 ≤ c1 ∧ ∀ n ∈ xs, (Lit.int .i64 n).wf = true := by
    obtain ⟨fuel, hf⟩ := h1
    rcases open_ints Try.underlying22 Try.underlying3 (by kernel_rfl) hf with ⟨hcs, _⟩ | ⟨x, l, c, zs, hcs, _, hl, hm, hz, _, hcell, hwz⟩
    · simp [Value.cells] at hcs
      obtain ⟨rfl, rfl, rfl⟩ := hcs
      exact ⟨[], rfl, Sl.nil, Nat.le_refl _, fun n hn => by cases hn⟩
    · simp [Value.cells] at hcs
      obtain ⟨rfl, rfl, rfl⟩ := hcs
      have hz' : zs.length = c1 := by simpa using hz
      exact ⟨zs.take _, by simp only [List.length_take]; omega, sl_of_cells hl hz' hcell, hl, fun n hn => hwz n (List.mem_of_mem_take hn)⟩
  subst e1
  clear hA0 hval0
  refine (walk a0 A1 c1 x1 W w0 s1 b1).mono fun e W' ⟨he, bel⟩ => ?_
  subst he
  exact ⟨_, rfl, _, _, _, [], _, [], hW', trodAll_mk1 (shut_bool Try.underlying4 _), (trodAll_cons_mk (shut_int Try.underlying3 w0) (trodAll_cons_mk (Below.trod laidOut (by kernel_rfl) (of_decide_eq_true (by kernel_rfl)) k1 bel lt1) trodAll_mk0)), rfl, bel.frame _, fun h => by cases h⟩

theorem over : Rows.vlqPutsRow.holds Try.pinned (OpenSpec.ofChange Rows.vlqPutsSpec) :=
  OpenClaim.holds_of_wide 3 Try.f3 rfl rfl rfl rfl rfl rfl rfl ⟨rfl, rfl, rfl, rfl, rfl⟩ rfl rfl rfl rfl rfl (by kernel_rfl) Try.func3 (by kernel_rfl)
    (of_decide_eq_true (by kernel_rfl)) (by unfold Func.isWrapper; first | (rw [if_pos (by decide +kernel)]; kernel_rfl) | (rw [if_neg (by decide +kernel)]; exact ⟨rfl, rfl⟩))
    (fun os started H enc _ => lifted os started H enc)

theorem proved : Rows.VlqPutsSaid := over
#print axioms proved
end Go.Proofs.Ytgfhjhgahddmnaa.vlqPuts
