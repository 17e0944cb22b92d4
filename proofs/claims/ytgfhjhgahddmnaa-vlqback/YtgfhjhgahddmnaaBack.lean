/-
  The statement VlqBack is proved: what was put is got, whatever follows; many are got as they were. For every slice of ints and every slice of bytes; no condition.
-/
import Derived.Test.YtgfhjhgahddmnaaSame
import Derived.OpenShut
import Derived.ShutString
import Derived.ChangeOld
namespace Go.Proofs.Ytgfhjhgahddmnaa.vlqBack
open Go.ChangeShapes Go.WideShapes Go.ChangeAt Go.RowKit
set_option linter.unusedVariables false

theorem pb_byte (l : List Int) : ∀ x ∈ pb l, 0 ≤ x ∧ x ≤ 255 := by
  intro x hx
  obtain ⟨n, _, h⟩ := List.mem_flatMap.1 hx
  exact vb_byte n 0 (by omega) (by omega) x h

theorem ga_back : ∀ (l : List Int) (f : Nat), okAll l = true → (pb l).length ≤ f → ga f (pb l) = (l, 0) := by
  intro l
  induction l with
  | nil => intro f _ _; exact ga_end f
  | cons n r ih =>
    intro f h hf
    simp only [okAll, List.all_cons, Bool.and_eq_true] at h
    obtain ⟨n0, n1⟩ := okB_bd h.1
    have hp := vb_pos n 0
    have e : pb (n :: r) = vb n 0 ++ pb r := by simp [pb]
    rw [e, List.length_append] at hf
    rw [e]
    obtain ⟨f', rfl⟩ : ∃ f', f = f' + 1 := ⟨f - 1, by omega⟩
    have hne : vb n 0 ++ pb r ≠ [] := by
      intro q
      have := congrArg List.length q
      simp at this
      rw [this.1] at hp
      simp at hp
    rw [ga_on hne (gt_back n (pb r) n0 n1), List.drop_left, ih f' h.2 (by omega)]
    rfl

def BkRel (w : World) (l : List Int) (i : Value) (wr : World) : Prop := ∃ k : Nat, k ≤ l.length ∧ i = .int .i64 (k : Int) ∧ okAll (l.take k) = true ∧ Below w.heap.size w wr

set_option maxHeartbeats 1000000 in
theorem walk (A0 : Option Addr) (c0 : Nat) (x0 : List Int) (A1 : Option Addr) (c1 : Nat) (x1 : List Int) (w : World)
    (s0 : Sl w w.heap.size .i64 A0 x0) (b0 : ∀ n ∈ x0, (Lit.int .i64 n).wf = true) (s1 : Sl w w.heap.size .u8 A1 x1) (b1 : ∀ n ∈ x1, (Lit.int .u8 n).wf = true) :
    Calls Try.prog 5 #[.slice A0 x0.length c0, .slice A1 x1.length c1] w (UpPost w) := by
  have HA := Lib.hid (awake_any w)
  have HB1 : Hid (∀ n ∈ x1, 0 ≤ n ∧ n ≤ 255) := fun n hn => bounds_u8 (b1 n hn)
  clear b0 b1
  by_cases h0 : x0.length ≤ 300
  · by_cases h1 : x1.length ≤ 100
    · obtain ⟨i0, hi, hz0, hz1, hz2⟩ := info_parts info5
      go_enter Try.func5, Try.ntmps5
      go_wp2_with (go_at_call 11; refine HA.out.mono ?_; rintro e wa ⟨rfl, hba⟩)
      go_loopw [6] (fun i wr => BkRel w x0 i wr) (fun i _ => x0.length - (intOf i).toNat)
      case atStart => exact ⟨0, by omega, rfl, rfl, hba⟩
      case round =>
        obtain ⟨k, hk, rfl, hok, hbel⟩ := hrel
        by_cases hlt : k < x0.length
        · obtain ⟨b, off, rfl, hb, hcell0⟩ := s0.at_ hlt
          have hcell := (hbel.cell (p := ⟨b, off + k, none⟩) hb).trans hcell0
          by_cases hn : okB (x0.getD k 0) = true
          · obtain ⟨n0, n1⟩ := okB_bd hn
            have HOK' : Hid (okAll (x0.take (k + 1)) = true) := by rw [okAll_snoc x0 k hlt, hok, hn]; rfl
            have HD := Lib.hid (put_yes (x0.getD k 0) wr n0 n1)
            have hvl : (vb (x0.getD k 0) 0).length ≤ 8 := vb_le8 n1
            have HZ : ∀ W : World, Hid (Calls Try.prog 16 #[.int .i64 (x0.getD k 0)] W (fun e w' => e = .returned (.int .i64 ((vb (x0.getD k 0) 0).length : Int)) ∧ W = w')) := fun W => size_yes _ W n0 n1
            obtain ⟨ys, hys⟩ : ∃ ys, ys = vb (x0.getD k 0) 0 ++ x1 := ⟨_, rfl⟩
            have HG : ∀ (W : World) (A : Option Addr) (c : Nat), Sl W W.heap.size .u8 A ys → Hid (Calls Try.prog 18 #[.slice A ys.length c] W (fun e w' => e = .returned (.tuple #[.int .i64 (x0.getD k 0), .int .i64 ((vb (x0.getD k 0) 0).length : Int), .int .i64 0]) ∧ W = w')) := fun W A c h =>
              (get_any A c ys W W.heap.size (by rw [hys, List.length_append]; omega) h (fun x hx => by
                rw [hys] at hx
                rcases List.mem_append.1 hx with q | q
                · exact vb_byte _ 0 (by omega) (by omega) x q
                · exact HB1.out x q)).mono fun _ _ ⟨he, hw⟩ => ⟨by rw [he, hys, gt_back _ x1 n0 n1]; rfl, hw⟩
            have HOWN : ∀ (W : World) (B : Nat) (v : Value), W.ownsRow B 5 1 v ((vb (x0.getD k 0) 0).length + x1.length) ((vb (x0.getD k 0) 0).map (Value.int .u8) ++ x1.map (Value.int .u8)) → ∃ A c, v = .slice A ys.length c ∧ Sl W W.heap.size .u8 A ys := fun W B v h => by
              have h' : W.ownsRow B 5 1 v ys.length (ys.map (Value.int .u8)) := by rw [hys]; simpa using h
              obtain ⟨A, c, q1, q2, _⟩ := own_slice h'
              exact ⟨A, c, q1, q2⟩
            clear hys hn hok
            generalize x0.getD k 0 = n at *
            generalize vb n 0 = zs at *
            go_wp2_with (first | (go_at_call 12; refine HD.out.mono ?_; rintro e wb ⟨Ab, cb, rfl, ⟨hsb, hcb⟩, hbb⟩; have qb := hbel.trans (hbb.mono hbel.size)) | (at_builtin; refine wpList_app rfl (.const (.slice none 0 0)) (.tmp 51) 24 rfl wb.heap.size 5 i0 (.int .u8 0) 1 Try.underlying24 hi hz0 hz1 hz2 rfl (.slice none 0 0) 0 [] rfl (World.ownsRow_nil _ _ _ _) wb.heap.size .u8 Ab cb zs rfl hsb (by unfold maxLen; omega) (by omega) (Nat.le_refl _) ?_; intro v1 w1 own1 grow1; simp only [Nat.zero_add, List.nil_append] at own1; have hc1 := (Below.refl wb.heap.size wb).grown grow1 (Nat.le_refl _) (by simp [Value.ownBlock])) | (at_builtin; refine wpList_app rfl (.tmp 52) (.tmp 53) 24 rfl wb.heap.size 5 i0 (.int .u8 0) 1 Try.underlying24 hi hz0 hz1 hz2 rfl v1 zs.length (zs.map (Value.int .u8)) rfl own1 w.heap.size .u8 A1 c1 x1 rfl (s1.below (qb.trans (hc1.mono qb.size))) (by unfold maxLen; omega) (by omega) hc1.size ?_; intro v2 w2 own2 grow2; have hc2 := hc1.grown grow2 hc1.size (fun q hq => (own1.lt q hq).1); have q2 := qb.trans (hc2.mono qb.size); obtain ⟨Az, cz, hv2, hsz⟩ := HOWN _ _ _ own2; subst hv2; have hcell2 := (q2.cell (p := ⟨b, off + k, none⟩) hb).trans hcell0; clear own1 own2 grow1 grow2 hc1) | (go_at_call 18; ((with_reducible refine (HG _ _ _ hsz).out.mono ?_); rintro e w' ⟨rfl, rfl⟩)) | (go_at_call 16; ((with_reducible refine (HZ _).out.mono ?_); rintro e w' ⟨rfl, rfl⟩)))
            go_roundw
            case rel => exact ⟨k + 1, by omega, by go_num, HOK'.out, q2⟩
            case measure => simp [intOf]; omega
          · have HD := Lib.hid (put_no (x0.getD k 0) wr (okB_nb (by simpa using hn)))
            clear hn hok
            generalize x0.getD k 0 = n at *
            go_wp2_with (go_at_call 12; refine HD.out.mono ?_; rintro e w' ⟨rfl, rfl⟩)
            go_ret
            exact ⟨rfl, hbel⟩
        · obtain rfl : k = x0.length := by omega
          rw [List.take_length] at hok
          have l0 := pb_le x0 hok
          have HP := Lib.hid (putall_yes A0 c0 x0 wr (by omega) ((s0.below hbel).mono hbel.size) hok)
          have HG : ∀ (W : World) (A : Option Addr) (c : Nat), Sl W W.heap.size .u8 A (pb x0) → (pb x0).length ≤ c → Hid (Calls Try.prog 20 #[.slice A (pb x0).length c] W (PutPost W .i64 x0 0)) := fun W A c h hc => by
            have := getall_any A c (pb x0) W (by omega) hc h (pb_byte x0)
            unfold GaPost at this
            rw [ga_back x0 _ hok (Nat.le_refl _)] at this
            exact this
          have HS : ∀ (W : World) (A' : Option Addr) (c' : Nat), Below w.heap.size w W → Sl W W.heap.size .i64 A' x0 → Hid (Calls Try.prog 22 #[.slice A0 x0.length c0, .slice A' x0.length c'] W (UpPost W)) := fun W A' c' hb h' =>
            same_any A0 A' c0 c' x0 W (by omega) ((s0.below hb).mono hb.size) h'
          clear hok
          generalize pb x0 = zs at *
          go_wp2_with (first | (go_at_call 14; ((with_reducible refine HP.out.mono ?_); rintro e wb ⟨Ab, cb, rfl, ⟨hsb, hcb⟩, hbb⟩; have qb := hbel.trans (hbb.mono hbel.size))) | (go_at_call 20; ((with_reducible refine (HG _ _ _ hsb hcb).out.mono ?_); rintro e wc ⟨Ac, cc, rfl, ⟨hsc, hcc⟩, hbc⟩; have qc := qb.trans (hbc.mono qb.size))) | (go_at_call 22; ((with_reducible refine (HS _ _ _ qc hsc).out.mono ?_); rintro e wd ⟨rfl, hbd⟩)))
          go_ret
          exact ⟨rfl, qc.trans (hbd.mono qc.size)⟩
    · have hd : 100 < x1.length := by omega
      go_enter Try.func5, Try.ntmps5
      go_wp2_with (go_at_call 11; refine HA.out.mono ?_; rintro e wa ⟨rfl, hba⟩)
      go_ret
      exact ⟨rfl, hba⟩
  · have hd : 300 < x0.length := by omega
    go_enter Try.func5, Try.ntmps5
    go_wp2_with (go_at_call 11; refine HA.out.mono ?_; rintro e wa ⟨rfl, hba⟩)
    go_ret
    exact ⟨rfl, hba⟩

theorem own : ownKnob Try.prog.godebug = none := by kernel_rfl
theorem laidOut : laidOutB Try.prog = true := by kernel_rfl

set_option maxRecDepth 100000 in
theorem lifted (os : Os) (started : os.Started) (H : Type) (enc : TypeId × Value → H) :
    ReturnsInHanded {} Try.checked os 5 .any (Rows.vlqBackSpec.pre6 enc Try.prog Try.f5 Rows.vlqBackRow.domain false) (Rows.vlqBackSpec.post enc Try.prog Try.f5 false true false false) := by
  refine returnsInHanded_of_change (C := Try.checked) own started (by kernel_rfl) Try.func5
    (ChangeSpec.witness6 (enc := enc) (C := Try.checked) false ⟨#[], #[.slice none 0 0, .slice none 0 0], []⟩ 8 (by kernel_rfl) (by kernel_rfl) (by kernel_rfl) (by kernel_rfl)) ?_
  intro W base args ds gs before hval0 hW hcnd _
  have hval : ∀ (j : Nat) t v, Try.f5.params[j]? = some t → args[j]? = some v → Value.okWide Try.prog W .any base t v := hval0
  have hW' := hW
  obtain ⟨p, q, hA0, hV, rfl, hfz, hnd⟩ := hW
  have hA : DataW.TrodAll enc Try.prog W 0 (fun _ => true) true Try.f5.params.toList args.toList ds p := hA0
  rw [Try.params5] at hA hval
  obtain ⟨v0, vs0, d0, ds0, p0, q0, hargs, rfl, rfl, h0, r0⟩ := trodAll_cons hA
  obtain ⟨v1, vs1, d1, ds1, p1, q1, rfl, rfl, rfl, h1, r1⟩ := trodAll_cons r0
  obtain ⟨rfl, rfl, rfl⟩ := trodAll_nil r1
  obtain rfl : args = #[v0, v1] := by cases args; simp_all
  obtain ⟨rfl, rfl⟩ := trodVars_none hV
  obtain ⟨A0, len0, c0, rfl⟩ := okWide_slice Try.underlying22 (hval 0 22 v0 rfl rfl)
  have k0 := h0
  have lt0 : ∀ x ∈ p0, x.block < W.heap.size := by obtain ⟨m, hm⟩ := k0; exact DataW.trod_lt m _ _ _ hm
  obtain ⟨x0, e0, s0, m0, b0⟩ : ∃ xs : List Int, xs.length = len0 ∧ Sl W W.heap.size .i64 A0 xs ∧ len0 ≤ c0 ∧ ∀ n ∈ xs, (Lit.int .i64 n).wf = true := by
    obtain ⟨fuel, hf⟩ := h0
    rcases open_ints Try.underlying22 Try.underlying3 (by kernel_rfl) hf with ⟨hcs, _⟩ | ⟨x, l, c, zs, hcs, _, hl, hm, hz, _, hcell, hwz⟩
    · simp [Value.cells] at hcs
      obtain ⟨rfl, rfl, rfl⟩ := hcs
      exact ⟨[], rfl, Sl.nil, Nat.le_refl _, fun n hn => by cases hn⟩
    · simp [Value.cells] at hcs
      obtain ⟨rfl, rfl, rfl⟩ := hcs
      have hz' : zs.length = c0 := by simpa using hz
      exact ⟨zs.take _, by simp only [List.length_take]; omega, sl_of_cells hl hz' hcell, hl, fun n hn => hwz n (List.mem_of_mem_take hn)⟩
  subst e0
  obtain ⟨A1, len1, c1, rfl⟩ := okWide_slice Try.underlying24 (hval 1 24 v1 rfl rfl)
  have k1 := h1
  have lt1 : ∀ x ∈ p1, x.block < W.heap.size := by obtain ⟨m, hm⟩ := k1; exact DataW.trod_lt m _ _ _ hm
  obtain ⟨x1, e1, s1, m1, b1⟩ : ∃ xs : List Int, xs.length = len1 ∧ Sl W W.heap.size .u8 A1 xs ∧ len1 ≤ c1 ∧ ∀ n ∈ xs, (Lit.int .u8 n).wf = true := by
    obtain ⟨fuel, hf⟩ := h1
    rcases open_ints Try.underlying24 Try.underlying5 (by kernel_rfl) hf with ⟨hcs, _⟩ | ⟨x, l, c, zs, hcs, _, hl, hm, hz, _, hcell, hwz⟩
    · simp [Value.cells] at hcs
      obtain ⟨rfl, rfl, rfl⟩ := hcs
      exact ⟨[], rfl, Sl.nil, Nat.le_refl _, fun n hn => by cases hn⟩
    · simp [Value.cells] at hcs
      obtain ⟨rfl, rfl, rfl⟩ := hcs
      have hz' : zs.length = c1 := by simpa using hz
      exact ⟨zs.take _, by simp only [List.length_take]; omega, sl_of_cells hl hz' hcell, hl, fun n hn => hwz n (List.mem_of_mem_take hn)⟩
  subst e1
  clear hA0 hval0
  refine (walk A0 c0 x0 A1 c1 x1 W s0 b0 s1 b1).mono fun e W' ⟨he, bel⟩ => ?_
  subst he
  exact ⟨_, rfl, _, _, _, [], _, [], hW', trodAll_mk1 (shut_bool Try.underlying4 _), (trodAll_cons_mk (Below.trod laidOut (by kernel_rfl) (of_decide_eq_true (by kernel_rfl)) k0 bel lt0) (trodAll_cons_mk (Below.trod laidOut (by kernel_rfl) (of_decide_eq_true (by kernel_rfl)) k1 bel lt1) trodAll_mk0)), rfl, bel.frame _, fun h => by cases h⟩

theorem over : Rows.vlqBackRow.holds Try.pinned (OpenSpec.ofChange Rows.vlqBackSpec) :=
  OpenClaim.holds_of_wide 5 Try.f5 rfl rfl rfl rfl rfl rfl rfl ⟨rfl, rfl, rfl, rfl, rfl⟩ rfl rfl rfl rfl rfl (by kernel_rfl) Try.func5 (by kernel_rfl)
    (of_decide_eq_true (by kernel_rfl)) (by unfold Func.isWrapper; first | (rw [if_pos (by decide +kernel)]; kernel_rfl) | (rw [if_neg (by decide +kernel)]; exact ⟨rfl, rfl⟩))
    (fun os started H enc _ => lifted os started H enc)

theorem proved : Rows.VlqBackSaid := over
#print axioms proved
end Go.Proofs.Ytgfhjhgahddmnaa.vlqBack
