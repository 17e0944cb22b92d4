/-
  The statement RecordGets is proved: any bytes begin with the record, or are refused with the error, that the document says; so are all records that they are. For every slice of bytes; no condition.
-/
import Derived.Test.YtaghbokgcpkjjaaSame
import Derived.OpenShut
import Derived.ShutString
import Derived.ChangeOld
namespace Go.Proofs.Ytaghbokgcpkjjaa.recordGets
open Go.ChangeShapes Go.WideShapes Go.ChangeAt Go.RowKit
set_option linter.unusedVariables false

theorem ra_len : ∀ (f : Nat) (l : List (Int × List Int)) (xs : List Int), (ra f l xs).1.length ≤ l.length + f := by
  intro f
  induction f with
  | zero => intro l xs; simp [ra]
  | succ f ih =>
    intro l xs
    rw [ra]
    split
    · simp
    · split
      · simp
      · have := ih (l ++ [((rg xs).1, (rg xs).2.1)]) (xs.drop (rg xs).2.2.1)
        rw [List.length_append] at this
        simp at this ⊢
        omega
theorem rc_below {w w' : World} {B : Nat} {A : Option Addr} {l : List (Int × List Int)} (h : Rc w B A l) (hb : Below B w w') : Rc w' B A l := by
  rcases h with rfl | ⟨b, off, hA, hlt, hc⟩
  · exact .inl rfl
  · refine .inr ⟨b, off, hA, hlt, fun i r hi => ?_⟩
    obtain ⟨h1, A', c', h2, h3⟩ := hc i r hi
    exact ⟨(hb.cell (p := ⟨b, off + i * 2, none⟩) hlt).trans h1, A', c', (hb.cell (p := ⟨b, off + i * 2 + 1, none⟩) hlt).trans h2, h3.below hb⟩
theorem rc_one {W : World} {B g : Nat} {k : Int} {b : List Int} {A : Option Addr} {c : Nat} (h0 : W.cell? ⟨g, 0, none⟩ = some (.int .i64 k)) (h1 : W.cell? ⟨g, 1, none⟩ = some (.slice A b.length c)) (hg : g < B) (hs : Sl W B .u8 A b) : Rc W B (some ⟨g, 0, none⟩) [(k, b)] :=
  .inr ⟨g, 0, rfl, hg, fun i r hi => by
    match i, hi with
    | 0, hi => simp at hi; subst hi; exact ⟨h0, A, c, h1, hs⟩⟩
theorem mk_rbox (w : World) (k : Int) (A : Option Addr) (n c : Nat) : Rbox (w.alloc (.cells #[.int .i64 k, .slice A n c] 24)) w.heap.size k A n c := rbox_new w k A n c

set_option maxHeartbeats 1600000 in
theorem walk (A0 : Option Addr) (c0 : Nat) (x0 : List Int) (w : World) (s0 : Sl w w.heap.size .u8 A0 x0) (m0 : x0.length ≤ c0) (b0 : ∀ n ∈ x0, (Lit.int .u8 n).wf = true) :
    Calls Try.prog 4 #[.slice A0 x0.length c0] w (UpPost w) := by
  have HA : ∀ W, Hid (Calls Try.prog 10 #[] W (UpPost W)) := fun W => awake_any W
  have bx : ∀ n ∈ x0, 0 ≤ n ∧ n ≤ 255 := fun n hn => byte_of (b0 n hn)
  clear b0
  by_cases h0 : 4000 < x0.length
  · have hd : (4000 : Int) < (x0.length : Int) := by omega
    clear bx
    go_enter Try.func4, Try.ntmps4
    go_wp2_with (go_at_call 10; refine (HA _).out.mono ?_; rintro e wa ⟨rfl, hba⟩)
    go_ret
    exact ⟨rfl, hba⟩
  · have hd : decide ((4000 : Int) < (x0.length : Int)) = false := by simp; omega
    have HG : ∀ W, Below w.heap.size w W → Hid (Calls Try.prog 13 #[.slice A0 x0.length c0] W (RgPost W (rg x0))) := fun W hb => rget3_any A0 c0 x0 W (by omega) m0 ((s0.below hb).mono hb.size) bx
    have HR : ∀ W, Below w.heap.size w W → Hid (Calls Try.prog 14 #[.slice A0 x0.length c0] W (RgPost W (rg x0))) := fun W hb => rg14_any A0 c0 x0 W (by omega) m0 ((s0.below hb).mono hb.size) bx
    have HL : ∀ W, Below w.heap.size w W → Hid (Calls Try.prog 15 #[.slice A0 x0.length c0] W (RaPost W (ra (x0.length + 1) [] x0))) := fun W hb => all_any A0 c0 x0 W (by omega) m0 ((s0.below hb).mono hb.size) bx
    have HM : ∀ W, Below w.heap.size w W → Hid (Calls Try.prog 16 #[.slice A0 x0.length c0] W (RaPost W (ra (x0.length + 1) [] x0))) := fun W hb => rall_any A0 c0 x0 W (by omega) m0 ((s0.below hb).mono hb.size) bx
    have hll := ra_len (x0.length + 1) [] x0
    obtain ⟨r1, hr1⟩ : ∃ r, rg x0 = r := ⟨_, rfl⟩
    rw [hr1] at HG HR
    obtain ⟨r2, hr2⟩ : ∃ r, ra (x0.length + 1) [] x0 = r := ⟨_, rfl⟩
    rw [hr2] at HL HM hll
    clear hr1 hr2
    obtain ⟨k, b, n, e⟩ := r1
    obtain ⟨l, g⟩ := r2
    simp only [List.length_nil] at hll
    clear bx
    go_enter Try.func4, Try.ntmps4
    go_wp2_with fail
    refine (HA _).out.mono ?_
    rintro e wa ⟨rfl, hba⟩
    clear HA
    go_wp2_with fail
    refine (HG _ hba).out.mono ?_
    rintro e wb ⟨Ab, cb, rfl, hsb, _, hbb⟩
    have qb := hba.trans (hbb.mono hba.size)
    have qb' := qb.alloc qb.size (.cells #[.int .i64 k, .slice Ab b.length cb] 24)
    have RB := mk_rbox wb k Ab b.length cb
    have hsb' := (hsb.below ((Below.refl wb.heap.size wb).alloc (Nat.le_refl _) (.cells #[.int .i64 k, .slice Ab b.length cb] 24))).mono (B' := (wb.alloc (.cells #[.int .i64 k, .slice Ab b.length cb] 24)).heap.size) (by simp)
    clear HG hba hbb hsb qb
    go_wp2_with fail
    generalize (wb.alloc (.cells #[.int .i64 k, .slice Ab b.length cb] 24)) = wb' at *
    refine (HR _ qb').out.mono ?_
    rintro e wc ⟨Ac, cc, rfl, hsc, _, hbc⟩
    have qc := qb'.trans (hbc.mono qb'.size)
    have qc' := qc.alloc qc.size (.cells #[.int .i64 k, .slice Ac b.length cc] 24)
    have hal := (Below.refl wc.heap.size wc).alloc (Nat.le_refl _) (.cells #[.int .i64 k, .slice Ac b.length cc] 24)
    have RB2 := rbox_on (rbox_on RB hbc) hal
    have RC := mk_rbox wc k Ac b.length cc
    have hsb2 := ((hsb'.below hbc).mono hbc.size).below hal |>.mono hal.size
    have hsc2 := (hsc.below hal).mono hal.size
    clear HR hbc hsc qc hal RB hsb' qb'
    go_wp2_with fail
    generalize (wc.alloc (.cells #[.int .i64 k, .slice Ac b.length cc] 24)) = wc' at *
    refine (HL _ qc').out.mono ?_
    rintro e wd ⟨Ad, cd, rfl, hrd, hbd⟩
    have qd := qc'.trans (hbd.mono qc'.size)
    have RB3 := rbox_on RB2 hbd
    have RC3 := rbox_on RC hbd
    have hsb3 := (hsb2.below hbd).mono hbd.size
    have hsc3 := (hsc2.below hbd).mono hbd.size
    clear HL hbd RB2 RC hsb2 hsc2 qc'
    go_wp2_with fail
    refine (HM _ qd).out.mono ?_
    rintro e we ⟨Ae, ce, rfl, hre, hbe⟩
    have qe := qd.trans (hbe.mono qd.size)
    have hrd2 := rc_below hrd hbe
    have hde := hbe.size
    obtain ⟨u0, u1, _⟩ := rbox_on RB3 hbe
    obtain ⟨v0, v1, _⟩ := rbox_on RC3 hbe
    have hsb4 := (hsb3.below hbe).mono hbe.size
    have hsc4 := (hsc3.below hbe).mono hbe.size
    clear HM RB3 RC3 hsb3 hsc3 qd hrd hbe
    go_wp2_with fail
    have hal := (Below.refl we.heap.size we).alloc (Nat.le_refl _) (.cells #[.int .i64 k, .slice Ab b.length cb] 24)
    have R1 := mk_rbox we k Ab b.length cb
    have z1 : (we.alloc (.cells #[.int .i64 k, .slice Ab b.length cb] 24)).heap.size = we.heap.size + 1 := by simp
    have q1 := qe.alloc qe.size (.cells #[.int .i64 k, .slice Ab b.length cb] 24)
    generalize (we.alloc (.cells #[.int .i64 k, .slice Ab b.length cb] 24)) = W1 at *
    have hal2 := (Below.refl W1.heap.size W1).alloc (Nat.le_refl _) (.cells #[.int .i64 k, .slice Ac b.length cc] 24)
    have R1' := rbox_on R1 hal2
    have R2 := mk_rbox W1 k Ac b.length cc
    have q2 := q1.alloc q1.size (.cells #[.int .i64 k, .slice Ac b.length cc] 24)
    rw [z1] at R2
    have hb6 := (((hsb4.below hal).mono hal.size).below hal2).mono hal2.size
    have hc6 := (((hsc4.below hal).mono hal.size).below hal2).mono hal2.size
    have hsz2 := hal2.size
    have hd2 := rc_below hrd2 ((hal.trans (hal2.mono hal.size)).mono hde)
    have he2 := rc_below hre (hal.trans (hal2.mono hal.size))
    generalize (W1.alloc (.cells #[.int .i64 k, .slice Ac b.length cc] 24)) = W2 at *
    refine (same_any (some ⟨we.heap.size, 0, none⟩) (some ⟨we.heap.size + 1, 0, none⟩) 1 1 W2.heap.size W2.heap.size [(k, b)] W2 (by simp) (rc_one R1'.1 R1'.2.1 R1'.2.2 hb6) (rc_one R2.1 R2.2.1 R2.2.2 hc6)).mono ?_
    rintro e wf ⟨rfl, m, rfl⟩
    clear hal hal2 R1 R1' R2 hb6 hc6 hsb4 hsc4 hrd2 hre u0 u1 v0 v1 q1
    go_wp2_with fail
    refine (same_any Ad Ae cd ce _ _ l (W2.drewN m) (by omega) (show Rc (W2.drewN m) _ Ad l from hd2) (show Rc (W2.drewN m) _ Ae l from he2)).mono ?_
    rintro e wg ⟨rfl, m', rfl⟩
    clear hd2 he2
    go_wp2
    go_ret
    exact ⟨rfl, below_drewN q2 _⟩

theorem own : ownKnob Try.prog.godebug = none := by kernel_rfl
theorem laidOut : laidOutB Try.prog = true := by kernel_rfl

set_option maxRecDepth 100000 in
theorem lifted (os : Os) (started : os.Started) (H : Type) (enc : TypeId × Value → H) :
    ReturnsInHanded {} Try.checked os 4 .any (Rows.recordGetsSpec.pre6 enc Try.prog Try.f4 Rows.recordGetsRow.domain false) (Rows.recordGetsSpec.post enc Try.prog Try.f4 false true false false) := by
  refine returnsInHanded_of_change (C := Try.checked) own started (by kernel_rfl) Try.func4
    (ChangeSpec.witness6 (enc := enc) (C := Try.checked) false ⟨#[], #[.slice none 0 0], []⟩ 8 (by kernel_rfl) (by kernel_rfl) (by kernel_rfl) (by kernel_rfl)) ?_
  intro W base args ds gs before hval0 hW hcnd _
  have hval : ∀ (j : Nat) t v, Try.f4.params[j]? = some t → args[j]? = some v → Value.okWide Try.prog W .any base t v := hval0
  have hW' := hW
  obtain ⟨p, q, hA0, hV, rfl, hfz, hnd⟩ := hW
  have hA : DataW.TrodAll enc Try.prog W 0 (fun _ => true) true Try.f4.params.toList args.toList ds p := hA0
  rw [Try.params4] at hA hval
  obtain ⟨v0, vs0, d0, ds0, p0, q0, hargs, rfl, rfl, h0, r0⟩ := trodAll_cons hA
  obtain ⟨rfl, rfl, rfl⟩ := trodAll_nil r0
  obtain rfl : args = #[v0] := by cases args; simp_all
  obtain ⟨rfl, rfl⟩ := trodVars_none hV
  obtain ⟨A0, len0, c0, rfl⟩ := okWide_slice Try.underlying22 (hval 0 22 v0 rfl rfl)
  have k0 := h0
  have lt0 : ∀ x ∈ p0, x.block < W.heap.size := by obtain ⟨m, hm⟩ := k0; exact DataW.trod_lt m _ _ _ hm
  obtain ⟨x0, e0, s0, m0, b0⟩ : ∃ xs : List Int, xs.length = len0 ∧ Sl W W.heap.size .u8 A0 xs ∧ len0 ≤ c0 ∧ ∀ n ∈ xs, (Lit.int .u8 n).wf = true := by
    obtain ⟨fuel, hf⟩ := h0
    rcases open_ints Try.underlying22 Try.underlying5 (by kernel_rfl) hf with ⟨hcs, _⟩ | ⟨x, l, c, zs, hcs, _, hl, hm, hz, _, hcell, hwz⟩
    · simp [Value.cells] at hcs
      obtain ⟨rfl, rfl, rfl⟩ := hcs
      exact ⟨[], rfl, Sl.nil, Nat.le_refl _, fun n hn => by cases hn⟩
    · simp [Value.cells] at hcs
      obtain ⟨rfl, rfl, rfl⟩ := hcs
      have hz' : zs.length = c0 := by simpa using hz
      exact ⟨zs.take _, by simp only [List.length_take]; omega, sl_of_cells hl hz' hcell, hl, fun n hn => hwz n (List.mem_of_mem_take hn)⟩
  subst e0
  clear hA0 hval0
  refine (walk A0 c0 x0 W s0 m0 b0).mono fun e W' ⟨he, bel⟩ => ?_
  subst he
  exact ⟨_, rfl, _, _, _, [], _, [], hW', trodAll_mk1 (shut_bool Try.underlying4 _), (trodAll_cons_mk (Below.trod laidOut (by kernel_rfl) (of_decide_eq_true (by kernel_rfl)) k0 bel lt0) trodAll_mk0), rfl, bel.frame _, fun h => by cases h⟩

theorem over : Rows.recordGetsRow.holds Try.pinned (OpenSpec.ofChange Rows.recordGetsSpec) :=
  OpenClaim.holds_of_wide 4 Try.f4 rfl rfl rfl rfl rfl rfl rfl ⟨rfl, rfl, rfl, rfl, rfl⟩ rfl rfl rfl rfl rfl (by kernel_rfl) Try.func4 (by kernel_rfl)
    (of_decide_eq_true (by kernel_rfl)) (by unfold Func.isWrapper; first | (rw [if_pos (by decide +kernel)]; kernel_rfl) | (rw [if_neg (by decide +kernel)]; exact ⟨rfl, rfl⟩))
    (fun os started H enc _ => lifted os started H enc)

theorem proved : Rows.RecordGetsSaid := over
#print axioms proved
end Go.Proofs.Ytaghbokgcpkjjaa.recordGets
