/-
  What is got may be, and is put as just the same bytes: CommandOnce answers true whatever the bytes; they read as they did. Conditions: none beyond the card's own (the table of what kinds need reads as its initialiser lays it).
-/
import Derived.Test.YteajbcngimccmaaDoorOpen
import Derived.Test.YteajbcngimccmaaDoorGet4
import Derived.Test.YteajbcngimccmaaDoorCards
import Derived.Test.YteajbcngimccmaaDoorTie
import Derived.SevenTiedAt
namespace Go.Proofs.YteajbcngimccmaaDoor.commandOnce
open Go.ChangeShapes Go.WideShapes Go.ChangeAt Go.RowKit Go.Joins
set_option linter.unusedVariables false

attribute [local go_sem ↓ high] eq23 guard23

theorem long (A0 : Option Addr) (c0 : Nat) (x0 : List Int) (w : World) (hN : Nd w) (s0 : Sl w w.heap.size .u8 A0 x0) (m0 : x0.length ≤ c0) (b0 : ∀ x ∈ x0, 0 ≤ x ∧ x ≤ 255) (hl : (2000 : Int) < (x0.length : Int)) : Calls Tryd.prog 6 #[.slice A0 x0.length c0] w (UpPost w) := by
  go_enter Tryd.func6, Tryd.ntmps6
  go_wp2_with fail
  refine (awake_any w hN).mono ?_
  rintro e w1 ⟨rfl, B1⟩
  have N1 := hN.on B1
  have q1 := B1.size
  go_wp2
  go_ret
  exact ⟨rfl, B1⟩

theorem bad (A0 : Option Addr) (c0 : Nat) (x0 : List Int) (w : World) (hN : Nd w) (s0 : Sl w w.heap.size .u8 A0 x0) (m0 : x0.length ≤ c0) (b0 : ∀ x ∈ x0, 0 ≤ x ∧ x ≤ 255) (hl : ¬ (2000 : Int) < (x0.length : Int)) (e0 : Int) (he : e0 ≠ 0) (hg : cg x0 = noG e0) : Calls Tryd.prog 6 #[.slice A0 x0.length c0] w (UpPost w) := by
  have HG : ∀ W, Nd W → Sl W W.heap.size .u8 A0 x0 → Hid (Calls Tryd.prog 16 #[.slice A0 x0.length c0] W fun e w' => e = .returned (.tuple #[cv 0 0 0 0 0 { data := #[] }, .int .i64 e0]) ∧ Below W.heap.size W w') := fun W h hs => get4_any A0 c0 x0 W h (by omega) m0 hs b0 (noG e0) hg
  have hl' : decide ((2000 : Int) < (x0.length : Int)) = false := by simpa using hl
  have heb : (e0 == 0) = false := by rw [beq_eq_false_iff_ne]; exact he
  clear hg hl he
  go_enter Tryd.func6, Tryd.ntmps6
  go_wp2_with fail
  refine (awake_any w hN).mono ?_
  rintro e w1 ⟨rfl, B1⟩
  have N1 := hN.on B1
  have q1 := B1.size
  have s1 := (s0.below B1).mono q1
  clear s0
  go_wp2_with fail
  refine (HG w1 N1 s1).out.mono ?_
  rintro e w2 ⟨rfl, B2⟩
  clear s1
  go_wp2
  go_ret
  have := B1.trans (B2.mono q1)
  exact ⟨rfl, this.alloc this.size _⟩

set_option maxHeartbeats 1000000 in
theorem good (A0 : Option Addr) (c0 : Nat) (x0 : List Int) (w : World) (hN : Nd w) (s0 : Sl w w.heap.size .u8 A0 x0) (m0 : x0.length ≤ c0) (b0 : ∀ x ∈ x0, 0 ≤ x ∧ x ≤ 255) (hl : ¬ (2000 : Int) < (x0.length : Int)) (u s k h n : Int) (tx : ByteArray) (l : List Int) (htx : strOfNums l = tx) (hg : cg x0 = ⟨u, s, k, h, n, l, 0⟩) (hp : cpu u s k h n tx = (x0, 0)) (hm : mayB u s k h n tx.size = true) : Calls Tryd.prog 6 #[.slice A0 x0.length c0] w (UpPost w) := by
  have HG : ∀ W, Nd W → Sl W W.heap.size .u8 A0 x0 → Hid (Calls Tryd.prog 16 #[.slice A0 x0.length c0] W fun e w' => e = .returned (.tuple #[cv u s k h n tx, .int .i64 0]) ∧ Below W.heap.size W w') := fun W h' hs => by
    have := get4_any A0 c0 x0 W h' (by omega) m0 hs b0 _ hg
    rw [← htx]; exact this
  have HP : ∀ W, Nd W → Hid (Calls Tryd.prog 10 #[cv u s k h n tx] W (PutPost W .u8 x0 0)) := fun W h' => by have := put4_any u s k h n tx W h' _ hp; exact this
  have HM : ∀ W, Nd W → Hid (Calls Tryd.prog 12 #[cv u s k h n tx] W (BoolPost W true)) := fun W h' => by have := may_any u s k h n tx W h'; rw [hm] at this; exact this
  have hl' : decide ((2000 : Int) < (x0.length : Int)) = false := by simpa using hl
  obtain ⟨T, hT⟩ : ∃ T, strOfNums x0 = T := ⟨_, rfl⟩
  clear hg hl hp hm htx
  go_enter Tryd.func6, Tryd.ntmps6
  go_wp2_with fail
  refine (awake_any w hN).mono ?_
  rintro e w1 ⟨rfl, B1⟩
  have N1 := hN.on B1
  have q1 := B1.size
  have s1 := (s0.below B1).mono q1
  go_wp2_with fail
  refine (HG w1 N1 s1).out.mono ?_
  rintro e w2 ⟨rfl, B2⟩
  have q2 := B2.size
  have B02 := B1.trans (B2.mono q1)
  have C2 := cb_new w2 u s k h n tx
  have Z2 : (w2.alloc (.cells #[.int .i64 u, .int .i64 s, .int .i64 k, .int .i64 h, .int .i64 n, .string tx] 23)).heap.size = w2.heap.size + 1 := by simp
  have B02 : Below w.heap.size w (w2.alloc (.cells #[.int .i64 u, .int .i64 s, .int .i64 k, .int .i64 h, .int .i64 n, .string tx] 23)) := B02.alloc B02.size _
  have N2 := hN.on B02
  clear s1
  go_wp2_with fail
  generalize w2.alloc (.cells #[.int .i64 u, .int .i64 s, .int .i64 k, .int .i64 h, .int .i64 n, .string tx] 23) = W2 at *
  refine (HP W2 N2).out.mono ?_
  rintro e w3 ⟨A3, c3, rfl, ⟨S3, l3⟩, B3⟩
  have q3 := B3.size
  have N3 := N2.on B3
  have B03 := B02.trans (B3.mono B02.size)
  obtain ⟨p0, p1, p2, p3, p4, p5⟩ := C2.on B3 (by omega)
  have K1 : (convert 25 9 (.slice A3 x0.length c3)).run Tryd.prog w3 = .ok (.string T) w3 := by rw [← hT]; exact str_of S3 c3 _ (fun p hp => rfl)
  have K2 : (convert 25 9 (.slice A0 x0.length c0)).run Tryd.prog w3 = .ok (.string T) w3 := by rw [← hT]; exact str_of (s0.below B03) c0 _ (fun p hp => rfl)
  clear S3 s0 hT
  go_wp2_with fail
  refine (HM w3 N3).out.mono ?_
  rintro e w4 ⟨rfl, B4⟩
  go_wp2
  go_ret
  exact ⟨rfl, B03.trans (B4.mono B03.size)⟩

theorem walk (A0 : Option Addr) (c0 : Nat) (x0 : List Int) (w : World) (hN : Nd w) (s0 : Sl w w.heap.size .u8 A0 x0) (m0 : x0.length ≤ c0) (b0' : ∀ n ∈ x0, (Lit.int .u8 n).wf = true) : Calls Tryd.prog 6 #[.slice A0 x0.length c0] w (UpPost w) := by
  have b0 : ∀ x ∈ x0, 0 ≤ x ∧ x ≤ 255 := fun x hx => byte_of (b0' x hx)
  by_cases hl : (2000 : Int) < (x0.length : Int)
  · exact long A0 c0 x0 w hN s0 m0 b0 hl
  by_cases he : (cg x0).e = 0
  · obtain ⟨hm, hc⟩ := cg_once b0 he
    have ht : ∀ x ∈ (cg x0).t, 0 ≤ x ∧ x ≤ 255 := fun x hx => b0 x (by rw [← hc, cbl, List.mem_append]; exact .inr hx)
    have hm' : mayB (cg x0).u (cg x0).s (cg x0).k (cg x0).h (cg x0).n (strOfNums (cg x0).t).size = true := by rw [strOfNums_size]; exact hm
    refine good A0 c0 x0 w hN s0 m0 b0 hl (cg x0).u (cg x0).s (cg x0).k (cg x0).h (cg x0).n _ (cg x0).t rfl ?_ ?_ hm'
    · rw [← he]
    · rw [cpu_yes hm', cbs_eq, bt_str ht, hc]
  · exact bad A0 c0 x0 w hN s0 m0 b0 hl _ he (cg_no he)

set_option maxRecDepth 100000 in
theorem lifted (os : Os) (started : os.Started) (H : Type) (enc : TypeId × Value → H) :
    ReturnsInHanded {} Tryd.checked os 6 .any (fun w args => (Rows.commandOnceSpec.pre enc Tryd.prog Tryd.f6 [] false w args ∧ laidMetH Tryd.prog laid4 w) ∧ sizedMet enc Tryd.prog Tryd.f6 (OpenSpec.ofChange Rows.commandOnceSpec) false w args)
      (Rows.commandOnceSpec.post enc Tryd.prog Tryd.f6 false true false false) := by
  refine returnsInHanded_of_change_and (C := Tryd.checked) (X := fun w _ => laidMetH Tryd.prog laid4 w) (fun _ _ _ hh h => h.of_heap hh) own started (by kernel_rfl) Tryd.func6
    (ChangeSpec.witness_shaped (enc := enc) (C := Tryd.checked) (os := os) (X := fun w _ => laidMetH Tryd.prog laid4 w) false (World.doorLaid Tryd.prog 18 os) #[.slice none 0 0] 8 rfl (World.shaped_of_RefB (by kernel_rfl) (by kernel_rfl)) (by kernel_rfl) (by kernel_rfl) (by kernel_rfl) (door_met os _)) ?_
  intro W base args ds gs before hval0 hW _ _ hL _
  have hN := nd_of_laid hL
  have hval : ∀ (j : Nat) t v, Tryd.f6.params[j]? = some t → args[j]? = some v → Value.okWide Tryd.prog W .any base t v := hval0
  have hW' := hW
  obtain ⟨p, q, hA0, hV, rfl, hfz, hnd⟩ := hW
  have hA : DataW.TrodAll enc Tryd.prog W 0 (fun _ => true) true Tryd.f6.params.toList args.toList ds p := hA0
  rw [Tryd.params6] at hA hval
  obtain ⟨v0, vs0, d0, ds0, p0, q0, hargs, rfl, rfl, h0, r0⟩ := trodAll_cons hA
  obtain ⟨rfl, rfl, rfl⟩ := trodAll_nil r0
  obtain rfl : args = #[v0] := by cases args; simp_all
  obtain ⟨rfl, rfl⟩ := trodVars_none hV
  obtain ⟨A0, len0, c0, rfl⟩ := okWide_slice Tryd.underlying25 (hval 0 25 v0 rfl rfl)
  have k0' := h0
  have lt0 : ∀ x ∈ p0, x.block < W.heap.size := by obtain ⟨m, hm⟩ := k0'; exact DataW.trod_lt m _ _ _ hm
  obtain ⟨x0, e0, s0', m0, b0⟩ : ∃ xs : List Int, xs.length = len0 ∧ Sl W W.heap.size .u8 A0 xs ∧ len0 ≤ c0 ∧ ∀ n ∈ xs, (Lit.int .u8 n).wf = true := by
    obtain ⟨fuel, hf⟩ := h0
    rcases open_ints Tryd.underlying25 Tryd.underlying5 (by kernel_rfl) hf with ⟨hcs, _⟩ | ⟨x, l, c, zs, hcs, _, hl, hm, hz, _, hcell, hwz⟩
    · simp [Value.cells] at hcs
      obtain ⟨rfl, rfl, rfl⟩ := hcs
      exact ⟨[], rfl, Sl.nil, Nat.le_refl _, fun n hn => by cases hn⟩
    · simp [Value.cells] at hcs
      obtain ⟨rfl, rfl, rfl⟩ := hcs
      have hz' : zs.length = c0 := by simpa using hz
      exact ⟨zs.take _, by simp only [List.length_take]; omega, sl_of_cells hl hz' hcell, hl, fun n hn => hwz n (List.mem_of_mem_take hn)⟩
  subst e0
  clear hA0 hval0
  refine (walk A0 c0 x0 W hN s0' m0 b0).mono fun e W' ⟨he, bel⟩ => ?_
  subst he
  exact ⟨_, rfl, _, _, _, [], _, [], hW', trodAll_mk1 (shut_bool Tryd.underlying4 _), (trodAll_cons_mk (Below.trod laidOut (by kernel_rfl) (of_decide_eq_true (by kernel_rfl)) k0' bel lt0) trodAll_mk0), rfl, bel.frame _, fun h => by cases h⟩

theorem over : Rows.CommandOnceSaid :=
  OpenClaim.holds_of_wide 6 Tryd.f6 rfl rfl rfl rfl rfl rfl rfl ⟨rfl, rfl, rfl, rfl, rfl⟩ rfl rfl rfl rfl rfl (by kernel_rfl) Tryd.func6 (by kernel_rfl)
    (of_decide_eq_true (by kernel_rfl)) (by unfold Func.isWrapper; first | (rw [if_pos (by decide +kernel)]; kernel_rfl) | (rw [if_neg (by decide +kernel)]; exact ⟨rfl, rfl⟩))
    (fun os started H enc _ => lifted os started H enc)

theorem proved : Rows.CommandOnceCardSaid :=
  Claim7.holds_tied_plain_at .later [] [.data] true (true, "93fff19bce4a84e988bf6e2625e0608d0039abc37830b3507fd65811e11668e5") false
    over (fun _ h => by cases h) (by kernel_rfl) (fun _ h => by cases h) commandOnce_row_tie rfl ⟨rfl, rfl⟩ (by kernel_rfl) rfl
    (fun f fn hf hfn => by
      obtain rfl : f = 6 := Option.some.inj ((show Tryd.prog.funcNamed "colloquy/colloquylaw04.CommandOnce" = some 6 by kernel_rfl).symm.trans hf) |>.symm
      obtain rfl : fn = Tryd.f6 := (Option.some.inj (Tryd.func6.symm.trans hfn)).symm
      exact ⟨by kernel_rfl, fun j t ht => by
        rw [Tryd.params6] at ht
        have hm : t ∈ [25] := by simpa using Array.mem_of_getElem? ht
        have hall : ([25].all fun u => !Tryd.prog.wantsStandIn u) = true := by kernel_rfl
        exact (show Tryd.prog.wantsStandIn t = false by simpa using List.all_eq_true.1 hall t hm)⟩)
    (by kernel_rfl)
#print axioms proved
end Go.Proofs.YteajbcngimccmaaDoor.commandOnce
