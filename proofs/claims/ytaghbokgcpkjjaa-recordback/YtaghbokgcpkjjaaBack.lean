/-
  The statement RecordBack is proved: records that were put are got one by one, whatever follows, and all together as they were. For every slice of records and every slice of bytes; no condition.
-/
import Derived.Test.YtaghbokgcpkjjaaRecsIn
import Derived.OpenShut
import Derived.ShutString
import Derived.ChangeOld
namespace Go.Proofs.Ytaghbokgcpkjjaa.recordBack
open Go.ChangeShapes Go.WideShapes Go.ChangeAt Go.RowKit
set_option linter.unusedVariables false

theorem rc_on {w w' : World} {B : Nat} {A : Option Addr} {l : List (Int × List Int)} (h : Rc w B A l) (hb : Below B w w') : Rc w' B A l := by
  rcases h with rfl | ⟨b, off, hA, hlt, hc⟩
  · exact .inl rfl
  · refine .inr ⟨b, off, hA, hlt, fun i r hi => ?_⟩
    obtain ⟨h1, A', c', h2, h3⟩ := hc i r hi
    exact ⟨(hb.cell (p := ⟨b, off + i * 2, none⟩) hlt).trans h1, A', c', (hb.cell (p := ⟨b, off + i * 2 + 1, none⟩) hlt).trans h2, h3.below hb⟩
theorem rc_single {W : World} {B g : Nat} {k : Int} {b : List Int} {A : Option Addr} {c : Nat} (h0 : W.cell? ⟨g, 0, none⟩ = some (.int .i64 k)) (h1 : W.cell? ⟨g, 1, none⟩ = some (.slice A b.length c)) (hg : g < B) (hs : Sl W B .u8 A b) : Rc W B (some ⟨g, 0, none⟩) [(k, b)] :=
  .inr ⟨g, 0, rfl, hg, fun i r hi => by
    match i, hi with
    | 0, hi => simp at hi; subst hi; exact ⟨h0, A, c, h1, hs⟩⟩

/-- Behind k rounds: the bytes of the first k records are laid, one behind the other. -/
def BkRel (w : World) (l : List (Int × List Int)) (v t : Value) (wr : World) : Prop :=
  ∃ k : Nat, k ≤ l.length ∧ t = .int .i64 (k : Int) ∧ (∀ r ∈ l.take k, okR r) ∧ wr.ownsRow w.heap.size 5 1 v (rall (l.take k)).length ((rall (l.take k)).map (Value.int .u8)) ∧ Below w.heap.size w wr

set_option maxHeartbeats 3200000 in
theorem main (A0 : Option Addr) (c0 : Nat) (x0 : List (Int × List Int)) (A1 : Option Addr) (c1 : Nat) (x1 : List Int) (w : World) (s0 : Rc w w.heap.size A0 x0) (m0 : x0.length ≤ c0) (b0 : ∀ x ∈ x0, fitR x) (s1 : Sl w w.heap.size .u8 A1 x1) (b1 : ∀ n ∈ x1, 0 ≤ n ∧ n ≤ 255)
    (h0 : x0.length ≤ 10) (h1 : x1.length ≤ 100) : Calls Try.prog 5 #[.slice A0 x0.length c0, .slice A1 x1.length c1] w (UpPost w) := by
  obtain ⟨i0, hi, hz0, hz1, hz2⟩ := info_parts info5
  have HA : ∀ W, Hid (Calls Try.prog 10 #[] W (UpPost W)) := fun W => awake_any W
  have d0 : decide ((10 : Int) < (x0.length : Int)) = false := by simp; omega
  have d1 : decide ((100 : Int) < (x1.length : Int)) = false := by simp; omega
  have HB0 := Lib.hid b0
  have HB1 := Lib.hid b1
  have HS0 := Lib.hid s0
  have HS1 := Lib.hid s1
  clear b0 b1 s0 s1
  go_enter Try.func5, Try.ntmps5
  go_wp2_with (go_at_call 10; refine (HA _).out.mono ?_; rintro e wa ⟨rfl, hba⟩)
  go_loopw [6, 7] (fun v t wr => BkRel w x0 v t wr) (fun _ t _ => x0.length - (intOf t).toNat)
  case atStart => exact ⟨0, Nat.zero_le _, rfl, by simp, World.ownsRow_nil _ _ _ _, hba⟩
  case round =>
    obtain ⟨k, hk, rfl, hok, hown, hbel⟩ := hrel
    clear HA
    by_cases hlt : k < x0.length
    · obtain ⟨b, off, A', c', rfl, hb, y0, y1, hsA⟩ := (rc_on HS0.out hbel).at_ hlt
      have hfit : fitR (x0[k]) := HB0.out _ (List.getElem_mem hlt)
      obtain ⟨A'', r1, r2, hrc⟩ := one_run (rc_on HS0.out hbel) c0 k k ((k : Int) + 1) rfl rfl hlt m0
      have hki : (k : Int) < (x0.length : Int) := by omega
      have hk0 : (0 : Int) ≤ (k : Int) := by omega
      have hsn := rall_snoc x0 k hlt
      have hmem : ∀ r ∈ x0.take (k + 1), r ∈ x0.take k ∨ r = x0[k] := fun r hr => by
        rw [List.take_succ_eq_append_getElem hlt, List.mem_append] at hr
        rcases hr with hr | hr
        · exact .inl hr
        · exact .inr (by simpa using hr)
      have HM := Lib.hid hmem
      have HSN := Lib.hid hsn
      have HOK := Lib.hid hok
      have hbd := (rall_bd _ hok).2
      rw [List.length_take] at hbd
      clear hsn hok hmem
      obtain ⟨⟨kd, bd⟩, hr⟩ : ∃ r, x0[k] = r := ⟨_, rfl⟩
      rw [hr] at y0 y1 hsA hfit hrc HSN HM
      simp only at y0 y1 hsA HSN
      obtain ⟨_, hbb⟩ := hfit
      have HR := Lib.hid hr
      clear hr
      have hsA2 := hsA.mono hbel.size
      by_cases hl12 : 1200 < bd.length
      · have hd12 : (1200 : Int) < (bd.length : Int) := by omega
        clear hbb hsA hsA2 hrc hown
        go_wp2
        go_ret
        exact ⟨rfl, hbel⟩
      · have hd12 : decide ((1200 : Int) < (bd.length : Int)) = false := by simp; omega
        obtain ⟨r, hpu⟩ : ∃ r, pu kd bd = r := ⟨_, rfl⟩
        have HP := Lib.hid (put3_any kd A' c' bd wr hsA2 hbb r hpu)
        rcases pu_cases hpu with ⟨k0, k1, hl, rfl⟩ | ⟨e, he, rfl⟩
        · have HG : ∀ W A c, (rb kd bd ++ x1).length ≤ c → Sl W W.heap.size .u8 A (rb kd bd ++ x1) → Hid (Calls Try.prog 13 #[.slice A (rb kd bd ++ x1).length c] W (RgPost W (kd, bd, (rb kd bd).length, 0))) := fun W A c hc hs => by
            have h5 := (rb_bd (k := kd) (b := bd) k1 hl).2
            have := rget3_any A c (rb kd bd ++ x1) W (by rw [List.length_append]; omega) hc hs (fun x hx => by
              rw [List.mem_append] at hx
              rcases hx with hx | hx
              · exact rb_byte hbb x hx
              · exact HB1.out x hx)
            rw [rg_back kd bd x1 k0 k1 hl] at this
            exact this
          have hyl := (rb_bd (k := kd) (b := bd) k1 hl).2
          have HOK2 : Hid (okR (kd, bd)) := ⟨k0, k1, hl⟩
          clear hpu hbb hsA hsA2 k0 k1 hl
          simp only at HP
          obtain ⟨ys, hys⟩ : ∃ ys, rb kd bd = ys := ⟨_, rfl⟩
          rw [hys] at HP HG HSN hyl
          clear hys
          obtain ⟨zs, hzs⟩ : ∃ zs, rall (x0.take k) = zs := ⟨_, rfl⟩
          rw [hzs] at hown HSN hbd
          clear hzs
          have hsz := hbel.size
          go_wp2_with (first | (go_at_call 11; refine HP.out.mono ?_; rintro e wb ⟨Ab, cb, rfl, ⟨hsb, hcb⟩, hbb⟩; have qb := hbel.trans (hbb.mono hsz); have hown2 := own_below hown hbb; have qbs := hbb.size) | (at_builtin; refine wpList_app rfl (.const (.slice none 0 0)) (.tmp 58) 22 rfl wb.heap.size 5 i0 (.int .u8 0) 1 Try.underlying22 hi hz0 hz1 hz2 rfl (.slice none 0 0) 0 [] rfl (World.ownsRow_nil _ _ _ _) wb.heap.size .u8 Ab cb ys rfl hsb (by unfold maxLen; omega) (by omega) (Nat.le_refl _) ?_; intro v1 w1 own1 grow1; simp only [Nat.zero_add, List.nil_append] at own1; have t1 : Below wb.heap.size wb w1 := (Below.refl _ _).grown grow1 (Nat.le_refl _) (by simp [Value.ownBlock]); have q1 := qb.trans (t1.mono qb.size)) | (at_builtin; refine wpList_app rfl (.tmp 59) (.tmp 60) 22 rfl wb.heap.size 5 i0 (.int .u8 0) 1 Try.underlying22 hi hz0 hz1 hz2 rfl _ ys.length (ys.map (Value.int .u8)) rfl own1 w.heap.size .u8 A1 c1 x1 rfl (HS1.out.below q1) (by unfold maxLen; omega) (by omega) t1.size ?_; intro v2 w2 own2 grow2; have t2 : Below wb.heap.size wb w2 := t1.grown grow2 t1.size (fun q hq => (own1.lt q hq).1); have own2' : w2.ownsRow wb.heap.size 5 1 v2 (ys ++ x1).length ((ys ++ x1).map (Value.int .u8)) := (by rw [List.length_append, List.map_append]; exact own2); obtain ⟨A2, c2, hv2, hs2, hc2⟩ := own_slice own2'; subst hv2; rw [List.length_append] at hc2))
          have HG2 := HG w2 A2 c2 (by rw [List.length_append]; omega) hs2
          rw [List.length_append] at HG2
          refine HG2.out.mono ?_
          rintro e w3 ⟨A3, c3, rfl, hs3, _, hb3⟩
          have t3 : Below wb.heap.size wb w3 := t2.trans (hb3.mono t2.size)
          have q3 : Below w.heap.size w w3 := qb.trans (t3.mono qb.size)
          have own3 := own_below hown2 t3
          have hsb3 := (hsb.below t3)
          have hrc3 := rc_on hrc (hbb.trans (t3.mono hbb.size) |>.mono hsz)
          have hal := (Below.refl w3.heap.size w3).alloc (Nat.le_refl _) (.cells #[.int .i64 kd, .slice A3 bd.length c3] 24)
          clear HG HG2 HP hown hown2 own1 own2 own2' grow1 grow2 hs2 hb3 t1 t2 hc2 hsb hrc q1 hbb y0 y1
          go_wp2_with fail
          have hq : IntKind.i64.wrap ((k : Int) + 1) = (k : Int) + 1 := by rw [IntWalk.i64_in _ (by omega)]
          have hal2 := hal.alloc (by simp) (.cells #[.int .i64 kd, .slice A3 bd.length c3] 24)
          have hs5 := (hs3.below hal2).mono (B' := w3.heap.size + 2) (by omega)
          have R5 := rbox_new (w3.alloc (.cells #[.int .i64 kd, .slice A3 bd.length c3] 24)) kd A3 bd.length c3
          have z4 : (w3.alloc (.cells #[.int .i64 kd, .slice A3 bd.length c3] 24)).heap.size = w3.heap.size + 1 := by simp
          rw [z4] at R5
          have hsz3 := q3.size
          have HSM : Hid (Calls Try.prog 17 #[.slice (some ⟨w3.heap.size + 1, 0, none⟩) 1 1, .slice A'' 1 (c0 - k)] (((w3.alloc (.cells #[.int .i64 kd, .slice A3 bd.length c3] 24)).alloc (.cells #[.int .i64 kd, .slice A3 bd.length c3] 24)).drew) (SmPost (((w3.alloc (.cells #[.int .i64 kd, .slice A3 bd.length c3] 24)).alloc (.cells #[.int .i64 kd, .slice A3 bd.length c3] 24)).drew))) :=
            same_any (some ⟨w3.heap.size + 1, 0, none⟩) A'' 1 (c0 - k) (w3.heap.size + 2) w.heap.size [(kd, bd)] _ (by simp) (rc_single R5.1 R5.2.1 (by omega) hs5) (rc_on hrc3 (hal2.mono hsz3).drew)
          have HF5 : Hid (∀ w5, (∃ m, w5 = (((w3.alloc (.cells #[.int .i64 kd, .slice A3 bd.length c3] 24)).alloc (.cells #[.int .i64 kd, .slice A3 bd.length c3] 24)).drew).drewN m) → Below w.heap.size w w5 ∧ w5.ownsRow w.heap.size 5 1 u6 zs.length (zs.map (Value.int .u8)) ∧ Sl w5 wb.heap.size .u8 Ab ys) := fun w5 ⟨m5, h5⟩ => by
            have hw5 : Below w3.heap.size w3 w5 := by rw [h5]; exact below_drewN hal2.drew _
            exact ⟨q3.trans (hw5.mono hsz3), own_below own3 hw5, hsb3.below (hw5.mono t3.size)⟩
          clear hal hal2 hs5 R5 z4 own3 hsb3 hrc3 hs3
          go_region_with ((go_at_call 17; refine HSM.out.mono ?_; rintro e w5 ⟨rfl, hw5⟩; have F5 := HF5.out w5 hw5; clear hw5))
          obtain ⟨q5, own5, hsb5⟩ := F5
          have q5s := q5.size
          clear HSM HF5 t3 q3 r1 r2
          go_wp2_with (at_builtin; refine wpList_app rfl (.tmp 86) (.tmp 87) 22 rfl w.heap.size 5 i0 (.int .u8 0) 1 Try.underlying22 hi hz0 hz1 hz2 rfl _ zs.length (zs.map (Value.int .u8)) rfl own5 wb.heap.size .u8 Ab cb ys rfl hsb5 (by unfold maxLen; omega) (by omega) q5s ?_; intro v6 w6 own6 grow6)
          go_roundw
          case rel =>
            refine ⟨k + 1, by omega, by go_num, fun r hr => ?_, ?_, q5.grown grow6 q5s (fun q hq => (own5.lt q hq).1)⟩
            · rcases HM.out r hr with h | h
              · exact HOK.out r h
              · rw [h]; exact HOK2.out
            · rw [HSN.out, List.length_append, List.map_append]; exact own6
          case measure => simp [intOf]; omega
        · have heb : (e == 0) = false := by rw [beq_eq_false_iff_ne]; exact he
          clear he hpu hbb hsA hsA2 hrc hown
          go_wp2_with (go_at_call 11; refine HP.out.mono ?_; rintro e wb ⟨Ab, cb, rfl, ⟨hsb, hcb⟩, hbb⟩; have qb := hbel.trans (hbb.mono hbel.size))
          go_ret
          exact ⟨rfl, qb⟩
    · obtain rfl : k = x0.length := by omega
      rw [List.take_length] at hown hok
      have hbd := rall_bd _ hok
      have hyb := rall_byte x0 HB0.out
      have hra := ra_back x0 ((rall x0).length + 1) [] hok (by omega)
      rw [List.nil_append] at hra
      have hsz := hbel.size
      obtain ⟨A5, c5, rfl, hs5, hc5⟩ := own_slice hown
      have HL : Hid (Calls Try.prog 15 #[.slice A5 (rall x0).length c5] wr (RaPost wr (x0, 0))) := by
        have := all_any A5 c5 (rall x0) wr (by omega) hc5 hs5 hyb
        rw [hra] at this
        exact this
      clear hown hok hbd hyb hra hs5 hc5
      generalize (rall x0).length = n5 at *
      go_wp2_with fail
      refine HL.out.mono ?_
      rintro e wd ⟨Ad, cd, rfl, hrd, hbd⟩
      simp only at hrd
      have qd := hbel.trans (hbd.mono hsz)
      have HSM := Lib.hid (same_any Ad A0 cd c0 _ _ x0 wd (by omega) hrd (rc_on HS0.out qd))
      clear HL hrd hbd
      go_wp2_with fail
      refine HSM.out.mono ?_
      rintro e we ⟨rfl, m5, rfl⟩
      go_wp2
      go_ret
      exact ⟨rfl, below_drewN qd _⟩

set_option maxHeartbeats 800000 in
theorem walk (A0 : Option Addr) (c0 : Nat) (x0 : List (Int × List Int)) (A1 : Option Addr) (c1 : Nat) (x1 : List Int) (w : World) (s0 : Rc w w.heap.size A0 x0) (m0 : x0.length ≤ c0) (b0 : ∀ x ∈ x0, fitR x) (s1 : Sl w w.heap.size .u8 A1 x1) (b1 : ∀ n ∈ x1, (Lit.int .u8 n).wf = true) :
    Calls Try.prog 5 #[.slice A0 x0.length c0, .slice A1 x1.length c1] w (UpPost w) := by
  have HA : ∀ W, Hid (Calls Try.prog 10 #[] W (UpPost W)) := fun W => awake_any W
  by_cases h0 : 10 < x0.length
  · have d0 : (10 : Int) < (x0.length : Int) := by omega
    clear s0 b0 s1 b1
    go_enter Try.func5, Try.ntmps5
    go_wp2_with (go_at_call 10; refine (HA _).out.mono ?_; rintro e wa ⟨rfl, hba⟩)
    go_ret
    exact ⟨rfl, hba⟩
  · by_cases h1 : 100 < x1.length
    · have d0 : decide ((10 : Int) < (x0.length : Int)) = false := by simp; omega
      have d1 : (100 : Int) < (x1.length : Int) := by omega
      clear s0 b0 s1 b1
      go_enter Try.func5, Try.ntmps5
      go_wp2_with (go_at_call 10; refine (HA _).out.mono ?_; rintro e wa ⟨rfl, hba⟩)
      go_ret
      exact ⟨rfl, hba⟩
    · exact main A0 c0 x0 A1 c1 x1 w s0 m0 b0 s1 (fun n hn => byte_of (b1 n hn)) (by omega) (by omega)

theorem own : ownKnob Try.prog.godebug = none := by kernel_rfl
theorem laidOut : laidOutB Try.prog = true := by kernel_rfl

set_option maxRecDepth 100000 in
theorem lifted (os : Os) (started : os.Started) (H : Type) (enc : TypeId × Value → H) :
    ReturnsInHanded {} Try.checked os 5 .any (Rows.recordBackSpec.pre6 enc Try.prog Try.f5 Rows.recordBackRow.domain false) (Rows.recordBackSpec.post enc Try.prog Try.f5 false true false false) := by
  refine returnsInHanded_of_change (C := Try.checked) own started (by kernel_rfl) Try.func5
    (ChangeSpec.witness6 (enc := enc) (C := Try.checked) false ⟨#[], #[.slice none 0 0, .slice none 0 0], []⟩ 8 (by kernel_rfl) (by kernel_rfl) (by kernel_rfl) (by kernel_rfl)) ?_
  intro W base args ds gs before hval0 hW hcnd _
  have hval : ∀ (j : Nat) t v, Try.f5.params[j]? = some t → args[j]? = some v → Value.okWide Try.prog W .any base t v := hval0
  have hW' := hW
  obtain ⟨p, q, hA0, hV, rfl, hfz, hnd⟩ := hW
  have hA : DataW.TrodAll enc Try.prog W 0 (fun _ => true) true Try.f5.params.toList args.toList ds p := hA0
  rw [Try.params5] at hA hval
  obtain ⟨v0, vs0, d0, ds0, p0, q0, hargs, rfl, rfl, h0, r0⟩ := trodAll_cons hA
  obtain ⟨v1, vs1, d1, ds1, p1, q1, rfl, rfl, rfl, h1, r1⟩ := trodAll_cons r0
  obtain ⟨rfl, rfl, rfl⟩ := trodAll_nil r1
  obtain rfl : args = #[v0, v1] := by cases args; simp_all
  obtain ⟨rfl, rfl⟩ := trodVars_none hV
  have k0 := h0
  have lt0 : ∀ x ∈ p0, x.block < W.heap.size := by obtain ⟨m, hm⟩ := k0; exact DataW.trod_lt m _ _ _ hm
  obtain ⟨A0, c0, x0, rfl, s0, m0, b0⟩ := open_recs (hval 0 32 v0 rfl rfl) h0
  obtain ⟨A1, len1, c1, rfl⟩ := okWide_slice Try.underlying22 (hval 1 22 v1 rfl rfl)
  have k1 := h1
  have lt1 : ∀ x ∈ p1, x.block < W.heap.size := by obtain ⟨m, hm⟩ := k1; exact DataW.trod_lt m _ _ _ hm
  obtain ⟨x1, e1, s1, m1, b1⟩ : ∃ xs : List Int, xs.length = len1 ∧ Sl W W.heap.size .u8 A1 xs ∧ len1 ≤ c1 ∧ ∀ n ∈ xs, (Lit.int .u8 n).wf = true := by
    obtain ⟨fuel, hf⟩ := h1
    rcases open_ints Try.underlying22 Try.underlying5 (by kernel_rfl) hf with ⟨hcs, _⟩ | ⟨x, l, c, zs, hcs, _, hl, hm, hz, _, hcell, hwz⟩
    · simp [Value.cells] at hcs
      obtain ⟨rfl, rfl, rfl⟩ := hcs
      exact ⟨[], rfl, Sl.nil, Nat.le_refl _, fun n hn => by cases hn⟩
    · simp [Value.cells] at hcs
      obtain ⟨rfl, rfl, rfl⟩ := hcs
      have hz' : zs.length = c1 := by simpa using hz
      exact ⟨zs.take _, by simp only [List.length_take]; omega, sl_of_cells hl hz' hcell, hl, fun n hn => hwz n (List.mem_of_mem_take hn)⟩
  subst e1
  clear hA0 hval0
  refine (walk A0 c0 x0 A1 c1 x1 W s0 m0 b0 s1 b1).mono fun e W' ⟨he, bel⟩ => ?_
  subst he
  exact ⟨_, rfl, _, _, _, [], _, [], hW', trodAll_mk1 (shut_bool Try.underlying4 _), (trodAll_cons_mk (Below.trod laidOut (by kernel_rfl) (of_decide_eq_true (by kernel_rfl)) k0 bel lt0) (trodAll_cons_mk (Below.trod laidOut (by kernel_rfl) (of_decide_eq_true (by kernel_rfl)) k1 bel lt1) trodAll_mk0)), rfl, bel.frame _, fun h => by cases h⟩

theorem over : Rows.recordBackRow.holds Try.pinned (OpenSpec.ofChange Rows.recordBackSpec) :=
  OpenClaim.holds_of_wide 5 Try.f5 rfl rfl rfl rfl rfl rfl rfl ⟨rfl, rfl, rfl, rfl, rfl⟩ rfl rfl rfl rfl rfl (by kernel_rfl) Try.func5 (by kernel_rfl)
    (of_decide_eq_true (by kernel_rfl)) (by unfold Func.isWrapper; first | (rw [if_pos (by decide +kernel)]; kernel_rfl) | (rw [if_neg (by decide +kernel)]; exact ⟨rfl, rfl⟩))
    (fun os started H enc _ => lifted os started H enc)

theorem proved : Rows.RecordBackSaid := over
#print axioms proved
end Go.Proofs.Ytaghbokgcpkjjaa.recordBack
