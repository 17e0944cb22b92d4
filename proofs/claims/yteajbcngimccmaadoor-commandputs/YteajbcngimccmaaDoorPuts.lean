/-
  Any command is the bytes, or refused, as the document says; so is whether it may be, and reads: CommandPuts answers true whatever the command; it reads as it did. Conditions: none beyond the card's own (the table of what kinds need reads as its initialiser lays it).
-/
import Derived.Test.YteajbcngimccmaaDoorOpen
import Derived.Test.YteajbcngimccmaaDoorRput4
import Derived.Deep.RegionHeld3
import Derived.Deep.DrawnRows
import Derived.Test.YteajbcngimccmaaDoorCards
import Derived.Test.YteajbcngimccmaaDoorTie
import Derived.SevenTiedAt
namespace Go.Proofs.YteajbcngimccmaaDoor.commandPuts
open Go.ChangeShapes Go.WideShapes Go.ChangeAt Go.RowKit Go.Joins
set_option linter.unusedVariables false

/-- What the last step of the statement keeps of a world: the command's box, the two texts, all that was there. -/
theorem keep {w3 v v' : World} {B D L c2 c3 : Nat} {A2 A3 : Option Addr} {x : List Int} {T : ByteArray} {u s k h n : Int} {t : ByteArray} (hL : L = x.length) (hT : strOfNums x = T) (S2 : Sl w3 D .u8 A2 x) (S3 : Sl w3 D .u8 A3 x) (hB : B < D)
    (hS : v.cell? ⟨B, 0, none⟩ = some (.int .i64 u) ∧ v.cell? ⟨B, 1, none⟩ = some (.int .i64 s) ∧ v.cell? ⟨B, 2, none⟩ = some (.int .i64 k) ∧ v.cell? ⟨B, 3, none⟩ = some (.int .i64 h) ∧ v.cell? ⟨B, 4, none⟩ = some (.int .i64 n) ∧ v.cell? ⟨B, 5, none⟩ = some (.string t) ∧ (convert 25 9 (.slice A2 L c2)).run Tryd.prog v = .ok (.string T) v ∧ (convert 25 9 (.slice A3 L c3)).run Tryd.prog v = .ok (.string T) v ∧ Below D w3 v) (hb : Below D v v') : v'.cell? ⟨B, 0, none⟩ = some (.int .i64 u) ∧ v'.cell? ⟨B, 1, none⟩ = some (.int .i64 s) ∧ v'.cell? ⟨B, 2, none⟩ = some (.int .i64 k) ∧ v'.cell? ⟨B, 3, none⟩ = some (.int .i64 h) ∧ v'.cell? ⟨B, 4, none⟩ = some (.int .i64 n) ∧ v'.cell? ⟨B, 5, none⟩ = some (.string t) ∧ (convert 25 9 (.slice A2 L c2)).run Tryd.prog v' = .ok (.string T) v' ∧ (convert 25 9 (.slice A3 L c3)).run Tryd.prog v' = .ok (.string T) v' ∧ Below D w3 v' := by
  obtain ⟨c0, c1, c2', c3', c4, c5, _, _, q⟩ := hS
  have q' := q.trans hb
  subst hL hT
  refine ⟨(hb.cell (p := ⟨B, 0, none⟩) hB).trans c0, (hb.cell (p := ⟨B, 1, none⟩) hB).trans c1, (hb.cell (p := ⟨B, 2, none⟩) hB).trans c2', (hb.cell (p := ⟨B, 3, none⟩) hB).trans c3', (hb.cell (p := ⟨B, 4, none⟩) hB).trans c4, (hb.cell (p := ⟨B, 5, none⟩) hB).trans c5, ?_, ?_, q'⟩
  · exact str_of S2 c2 _ (fun p hp => q'.cell hp)
  · exact str_of S3 c3 _ (fun p hp => q'.cell hp)

theorem long (u s k h n : Int) (t : ByteArray) (w : World) (hN : Nd w) (hl : (1000 : Int) < (t.size : Int)) : Calls Tryd.prog 3 #[cv u s k h n t] w (UpPost w) := by
  go_enter Tryd.func3, Tryd.ntmps3
  go_wp2_with fail
  have BW : Below w.heap.size w (w.alloc (.cells #[.int .i64 u, .int .i64 s, .int .i64 k, .int .i64 h, .int .i64 n, .string t] 23)) := (Below.refl _ _).alloc (Nat.le_refl _) _
  have Z0 : (w.alloc (.cells #[.int .i64 u, .int .i64 s, .int .i64 k, .int .i64 h, .int .i64 n, .string t] 23)).heap.size = w.heap.size + 1 := by simp
  have C0 := cb_new w u s k h n t
  have N0 := hN.on BW
  generalize (w.alloc (.cells #[.int .i64 u, .int .i64 s, .int .i64 k, .int .i64 h, .int .i64 n, .string t] 23)) = W0 at *
  refine (awake_any W0 N0).mono ?_
  rintro e w1 ⟨rfl, B1⟩
  have N1 := N0.on B1
  have q1 := B1.size
  obtain ⟨p0, p1, p2, p3, p4, p5⟩ := C0.on B1 (by omega)
  go_wp2
  go_ret
  exact ⟨rfl, BW.trans (B1.mono BW.size)⟩

set_option maxHeartbeats 2000000 in
theorem rest (u s k h n : Int) (t : ByteArray) (w : World) (hN : Nd w) (hl0 : ¬ (1000 : Int) < (t.size : Int)) (x : List Int) (e0 : Int) (P0 : cpu u s k h n t = (x, e0)) : Calls Tryd.prog 3 #[cv u s k h n t] w (UpPost w) := by
  have HP : ∀ W, Nd W → Hid (Calls Tryd.prog 10 #[cv u s k h n t] W (PutPost W .u8 x e0)) := fun W h' => by have := put4_any u s k h n t W h' (x, e0) P0; exact this
  have HQ : ∀ W, Hid (Calls Tryd.prog 11 #[cv u s k h n t] W (PutPost W .u8 x e0)) := fun W => by have := rput4_any u s k h n t W (x, e0) P0; exact this
  have HM1 : ∀ W, Nd W → Hid (Calls Tryd.prog 12 #[cv u s k h n t] W (BoolPost W (mayB u s k h n t.size))) := fun W h' => may_any u s k h n t W h'
  have HM2 : ∀ W, Hid (Calls Tryd.prog 13 #[cv u s k h n t] W (BoolPost W (mayB u s k h n t.size))) := fun W => rmay_any u s k h n t W
  have HR1 : ∀ W, Hid (Calls Tryd.prog 14 #[cv u s k h n t] W (BoolPost W (rdB k))) := fun W => reads_any u s k h n t W
  have HR2 : ∀ W, Hid (Calls Tryd.prog 15 #[cv u s k h n t] W (BoolPost W (rdB k))) := fun W => rreads_any u s k h n t W
  generalize mayB u s k h n t.size = z1 at *
  generalize rdB k = z2 at *
  have hl0' : decide ((1000 : Int) < (t.size : Int)) = false := by simpa using hl0
  clear P0 hl0
  go_enter Tryd.func3, Tryd.ntmps3
  go_wp2_with fail
  have BW : Below w.heap.size w (w.alloc (.cells #[.int .i64 u, .int .i64 s, .int .i64 k, .int .i64 h, .int .i64 n, .string t] 23)) := (Below.refl _ _).alloc (Nat.le_refl _) _
  have Z0 : (w.alloc (.cells #[.int .i64 u, .int .i64 s, .int .i64 k, .int .i64 h, .int .i64 n, .string t] 23)).heap.size = w.heap.size + 1 := by simp
  have C0 := cb_new w u s k h n t
  have N0 := hN.on BW
  generalize (w.alloc (.cells #[.int .i64 u, .int .i64 s, .int .i64 k, .int .i64 h, .int .i64 n, .string t] 23)) = W0 at *
  refine (awake_any W0 N0).mono ?_
  rintro e w1 ⟨rfl, B1⟩
  have N1 := N0.on B1
  have q1 := B1.size
  obtain ⟨p0, p1, p2, p3, p4, p5⟩ := C0.on B1 (by omega)
  go_wp2_with fail
  clear p0 p1 p2 p3 p4 p5
  refine (HP _ N1).out.mono ?_
  rintro e w2 ⟨A2, c2, rfl, ⟨S2, l2⟩, B2⟩
  have q2 := B2.size
  have N2 := N1.on B2
  have B02 := B1.trans (B2.mono q1)
  obtain ⟨p0, p1, p2, p3, p4, p5⟩ := C0.on B02 (by omega)
  go_wp2_with fail
  clear p0 p1 p2 p3 p4 p5
  refine (HQ _).out.mono ?_
  rintro e w3 ⟨A3, c3, rfl, ⟨S3, l3⟩, B3⟩
  have q3 := B3.size
  have N3 := N2.on B3
  have B03 := B02.trans (B3.mono (by omega))
  obtain ⟨p0, p1, p2, p3, p4, p5⟩ := C0.on B03 (by omega)
  have BE : Below w.heap.size w w3 := BW.trans (B03.mono BW.size)
  have S2' : Sl w3 w3.heap.size .u8 A2 x := (S2.below B3).mono q3
  obtain ⟨T, hT⟩ : ∃ T, strOfNums x = T := ⟨_, rfl⟩
  have K2 : (convert 25 9 (.slice A2 x.length c2)).run Tryd.prog w3 = .ok (.string T) w3 := by rw [← hT]; exact str_of S2' c2 _ (fun p hp => rfl)
  have K3 : (convert 25 9 (.slice A3 x.length c3)).run Tryd.prog w3 = .ok (.string T) w3 := by rw [← hT]; exact str_of S3 c3 _ (fun p hp => rfl)
  have hz : w.heap.size < w3.heap.size := by omega
  have KS : Hid (∀ v v', (v.cell? ⟨w.heap.size, 0, none⟩ = some (.int .i64 u) ∧ v.cell? ⟨w.heap.size, 1, none⟩ = some (.int .i64 s) ∧ v.cell? ⟨w.heap.size, 2, none⟩ = some (.int .i64 k) ∧ v.cell? ⟨w.heap.size, 3, none⟩ = some (.int .i64 h) ∧ v.cell? ⟨w.heap.size, 4, none⟩ = some (.int .i64 n) ∧ v.cell? ⟨w.heap.size, 5, none⟩ = some (.string t) ∧ (convert 25 9 (.slice A2 x.length c2)).run Tryd.prog v = .ok (.string T) v ∧ (convert 25 9 (.slice A3 x.length c3)).run Tryd.prog v = .ok (.string T) v ∧ Below w3.heap.size w3 v) → Below v.heap.size v v' → (v'.cell? ⟨w.heap.size, 0, none⟩ = some (.int .i64 u) ∧ v'.cell? ⟨w.heap.size, 1, none⟩ = some (.int .i64 s) ∧ v'.cell? ⟨w.heap.size, 2, none⟩ = some (.int .i64 k) ∧ v'.cell? ⟨w.heap.size, 3, none⟩ = some (.int .i64 h) ∧ v'.cell? ⟨w.heap.size, 4, none⟩ = some (.int .i64 n) ∧ v'.cell? ⟨w.heap.size, 5, none⟩ = some (.string t) ∧ (convert 25 9 (.slice A2 x.length c2)).run Tryd.prog v' = .ok (.string T) v' ∧ (convert 25 9 (.slice A3 x.length c3)).run Tryd.prog v' = .ok (.string T) v' ∧ Below w3.heap.size w3 v')) := fun v v' hS hb => keep rfl hT S2' S3 hz hS (hb.mono hS.2.2.2.2.2.2.2.2.size)
  have KD : Hid (∀ v, (v.cell? ⟨w.heap.size, 0, none⟩ = some (.int .i64 u) ∧ v.cell? ⟨w.heap.size, 1, none⟩ = some (.int .i64 s) ∧ v.cell? ⟨w.heap.size, 2, none⟩ = some (.int .i64 k) ∧ v.cell? ⟨w.heap.size, 3, none⟩ = some (.int .i64 h) ∧ v.cell? ⟨w.heap.size, 4, none⟩ = some (.int .i64 n) ∧ v.cell? ⟨w.heap.size, 5, none⟩ = some (.string t) ∧ (convert 25 9 (.slice A2 x.length c2)).run Tryd.prog v = .ok (.string T) v ∧ (convert 25 9 (.slice A3 x.length c3)).run Tryd.prog v = .ok (.string T) v ∧ Below w3.heap.size w3 v) → (v.drew.cell? ⟨w.heap.size, 0, none⟩ = some (.int .i64 u) ∧ v.drew.cell? ⟨w.heap.size, 1, none⟩ = some (.int .i64 s) ∧ v.drew.cell? ⟨w.heap.size, 2, none⟩ = some (.int .i64 k) ∧ v.drew.cell? ⟨w.heap.size, 3, none⟩ = some (.int .i64 h) ∧ v.drew.cell? ⟨w.heap.size, 4, none⟩ = some (.int .i64 n) ∧ v.drew.cell? ⟨w.heap.size, 5, none⟩ = some (.string t) ∧ (convert 25 9 (.slice A2 x.length c2)).run Tryd.prog v.drew = .ok (.string T) v.drew ∧ (convert 25 9 (.slice A3 x.length c3)).run Tryd.prog v.drew = .ok (.string T) v.drew ∧ Below w3.heap.size w3 v.drew)) := fun v hS => keep rfl hT S2' S3 hz hS ((Below.refl _ _).drew)
  have HM1' : ∀ W, (W.cell? ⟨w.heap.size, 0, none⟩ = some (.int .i64 u) ∧ W.cell? ⟨w.heap.size, 1, none⟩ = some (.int .i64 s) ∧ W.cell? ⟨w.heap.size, 2, none⟩ = some (.int .i64 k) ∧ W.cell? ⟨w.heap.size, 3, none⟩ = some (.int .i64 h) ∧ W.cell? ⟨w.heap.size, 4, none⟩ = some (.int .i64 n) ∧ W.cell? ⟨w.heap.size, 5, none⟩ = some (.string t) ∧ (convert 25 9 (.slice A2 x.length c2)).run Tryd.prog W = .ok (.string T) W ∧ (convert 25 9 (.slice A3 x.length c3)).run Tryd.prog W = .ok (.string T) W ∧ Below w3.heap.size w3 W) → Hid (Calls Tryd.prog 12 #[cv u s k h n t] W (BoolPost W z1)) := fun W hS => HM1 W (N3.on hS.2.2.2.2.2.2.2.2)
  have S0 : w3.cell? ⟨w.heap.size, 0, none⟩ = some (.int .i64 u) ∧ w3.cell? ⟨w.heap.size, 1, none⟩ = some (.int .i64 s) ∧ w3.cell? ⟨w.heap.size, 2, none⟩ = some (.int .i64 k) ∧ w3.cell? ⟨w.heap.size, 3, none⟩ = some (.int .i64 h) ∧ w3.cell? ⟨w.heap.size, 4, none⟩ = some (.int .i64 n) ∧ w3.cell? ⟨w.heap.size, 5, none⟩ = some (.string t) ∧ (convert 25 9 (.slice A2 x.length c2)).run Tryd.prog w3 = .ok (.string T) w3 ∧ (convert 25 9 (.slice A3 x.length c3)).run Tryd.prog w3 = .ok (.string T) w3 ∧ Below w3.heap.size w3 w3 := ⟨p0, p1, p2, p3, p4, p5, K2, K3, Below.refl _ _⟩
  have S0' := Lib.hid S0
  clear S2 S3 S2' hT HP HQ HM1 B1 B2 B3 B02 B03 C0 N0 N1 N2 hN
  go_wp2_with fail
  go_region_held3 (fun v => v.cell? ⟨w.heap.size, 0, none⟩ = some (.int .i64 u) ∧ v.cell? ⟨w.heap.size, 1, none⟩ = some (.int .i64 s) ∧ v.cell? ⟨w.heap.size, 2, none⟩ = some (.int .i64 k) ∧ v.cell? ⟨w.heap.size, 3, none⟩ = some (.int .i64 h) ∧ v.cell? ⟨w.heap.size, 4, none⟩ = some (.int .i64 n) ∧ v.cell? ⟨w.heap.size, 5, none⟩ = some (.string t) ∧ (convert 25 9 (.slice A2 x.length c2)).run Tryd.prog v = .ok (.string T) v ∧ (convert 25 9 (.slice A3 x.length c3)).run Tryd.prog v = .ok (.string T) v ∧ Below w3.heap.size w3 v) (first | (exact S0) | (exact KD.out _ S0) | (exact KD.out _ (by assumption)) | (exact KS.out _ _ (by assumption) (by assumption)))
    (first | (go_at_call 12; (with_reducible refine (HM1' _ ?_).out.mono ?_); (focus assumption); rintro e w' ⟨rfl, hb'⟩) | (go_at_call 13; (with_reducible refine (HM2 _).out.mono ?_); rintro e w' ⟨rfl, hb'⟩) | (go_at_call 14; (with_reducible refine (HR1 _).out.mono ?_); rintro e w' ⟨rfl, hb'⟩) | (go_at_call 15; (with_reducible refine (HR2 _).out.mono ?_); rintro e w' ⟨rfl, hb'⟩))
  rename_i wa ha wb hb2 wc hc hSx
  have SE := KS.out _ _ (KS.out _ _ (KS.out _ _ (KS.out _ _ (KD.out _ S0) ha) hb2) hc) hb'
  go_wp2
  go_ret
  exact ⟨rfl, BE.trans (SE.2.2.2.2.2.2.2.2.mono (by omega))⟩

theorem walk (u s k h n : Int) (t : ByteArray) (w : World) (hN : Nd w) : Calls Tryd.prog 3 #[cv u s k h n t] w (UpPost w) := by
  by_cases hl0 : (1000 : Int) < (t.size : Int)
  · exact long u s k h n t w hN hl0
  · exact rest u s k h n t w hN hl0 _ _ rfl

set_option maxRecDepth 100000 in
theorem lifted (os : Os) (started : os.Started) (H : Type) (enc : TypeId × Value → H) :
    ReturnsInHanded {} Tryd.checked os 3 .any (fun w args => (Rows.commandPutsSpec.pre enc Tryd.prog Tryd.f3 [] false w args ∧ laidMetH Tryd.prog laid4 w) ∧ sizedMet enc Tryd.prog Tryd.f3 (OpenSpec.ofChange Rows.commandPutsSpec) false w args)
      (Rows.commandPutsSpec.post enc Tryd.prog Tryd.f3 false true false false) := by
  refine returnsInHanded_of_change_and (C := Tryd.checked) (X := fun w _ => laidMetH Tryd.prog laid4 w) (fun _ _ _ hh h => h.of_heap hh) own started (by kernel_rfl) Tryd.func3
    (ChangeSpec.witness_shaped (enc := enc) (C := Tryd.checked) (os := os) (X := fun w _ => laidMetH Tryd.prog laid4 w) false (World.doorLaid Tryd.prog 18 os) #[.agg #[.int .i64 0, .int .i64 0, .int .i64 0, .int .i64 0, .int .i64 0, .string ⟨#[]⟩]] 8 rfl (World.shaped_of_RefB (by kernel_rfl) (by kernel_rfl)) (by kernel_rfl) (by kernel_rfl) (by kernel_rfl) (door_met os _)) ?_
  intro W base args ds gs before hval0 hW _ _ hL _
  have hN := nd_of_laid hL
  have hval : ∀ (j : Nat) t v, Tryd.f3.params[j]? = some t → args[j]? = some v → Value.okWide Tryd.prog W .any base t v := hval0
  have hW' := hW
  obtain ⟨p, q, hA0, hV, rfl, hfz, hnd⟩ := hW
  have hA : DataW.TrodAll enc Tryd.prog W 0 (fun _ => true) true Tryd.f3.params.toList args.toList ds p := hA0
  rw [Tryd.params3] at hA hval
  obtain ⟨v0, vs0, d0, ds0, p0, q0, hargs, rfl, rfl, h0, r0⟩ := trodAll_cons hA
  obtain ⟨rfl, rfl, rfl⟩ := trodAll_nil r0
  obtain rfl : args = #[v0] := by cases args; simp_all
  obtain ⟨rfl, rfl⟩ := trodVars_none hV
  have k0' := h0
  have lt0 : ∀ x ∈ p0, x.block < W.heap.size := by obtain ⟨m, hm⟩ := k0'; exact DataW.trod_lt m _ _ _ hm
  obtain ⟨u0, s0, k0, h0c, n0, t0, rfl⟩ := open_cmd (hval 0 23 v0 rfl rfl) h0
  clear hA0 hval0
  refine (walk u0 s0 k0 h0c n0 t0 W hN ).mono fun e W' ⟨he, bel⟩ => ?_
  subst he
  exact ⟨_, rfl, _, _, _, [], _, [], hW', trodAll_mk1 (shut_bool Tryd.underlying4 _), (trodAll_cons_mk (Below.trod laidOut (by kernel_rfl) (of_decide_eq_true (by kernel_rfl)) k0' bel lt0) trodAll_mk0), rfl, bel.frame _, fun h => by cases h⟩

theorem over : Rows.CommandPutsSaid :=
  OpenClaim.holds_of_wide 3 Tryd.f3 rfl rfl rfl rfl rfl rfl rfl ⟨rfl, rfl, rfl, rfl, rfl⟩ rfl rfl rfl rfl rfl (by kernel_rfl) Tryd.func3 (by kernel_rfl)
    (of_decide_eq_true (by kernel_rfl)) (by unfold Func.isWrapper; first | (rw [if_pos (by decide +kernel)]; kernel_rfl) | (rw [if_neg (by decide +kernel)]; exact ⟨rfl, rfl⟩))
    (fun os started H enc _ => lifted os started H enc)

theorem proved : Rows.CommandPutsCardSaid :=
  Claim7.holds_tied_plain_at .later [] [.data] true (true, "93fff19bce4a84e988bf6e2625e0608d0039abc37830b3507fd65811e11668e5") false
    over (fun _ h => by cases h) (by kernel_rfl) (fun _ h => by cases h) commandPuts_row_tie rfl ⟨rfl, rfl⟩ (by kernel_rfl) rfl
    (fun f fn hf hfn => by
      obtain rfl : f = 3 := Option.some.inj ((show Tryd.prog.funcNamed "colloquy/colloquylaw04.CommandPuts" = some 3 by kernel_rfl).symm.trans hf) |>.symm
      obtain rfl : fn = Tryd.f3 := (Option.some.inj (Tryd.func3.symm.trans hfn)).symm
      exact ⟨by kernel_rfl, fun j t ht => by
        rw [Tryd.params3] at ht
        have hm : t ∈ [23] := by simpa using Array.mem_of_getElem? ht
        have hall : ([23].all fun u => !Tryd.prog.wantsStandIn u) = true := by kernel_rfl
        exact (show Tryd.prog.wantsStandIn t = false by simpa using List.all_eq_true.1 hall t hm)⟩)
    (by kernel_rfl)
#print axioms proved
end Go.Proofs.YteajbcngimccmaaDoor.commandPuts
