/-
  The walk of the document's Of: what a command waits for is just as great as what of the list interferes with it asks for. Conditions: at most 1000 that are known; their numbers are at most 2^40, and ones that an int holds.
-/
import Derived.Test.YtmeklhlojogdnaaDoorOfp
import Derived.Test.YtmeklhlojogdnaaDoorRitf
namespace Go.Proofs.YtmeklhlojogdnaaDoor
open Go.RowKit
set_option linter.unusedVariables false
attribute [local go_sem ↓ high] eq26 guard26 neq26 guard26n

theorem run_res11 {V : World} {tm : Array Value} {B : Nat} {a : Int} {A : Option Addr} {n c : Nat} (h2 : tm[8]?.getD undef = .pointer (some ⟨B, 0, none⟩)) (hb : At.Rb V B a A n c) :
    (results Tryd.f11 tm).run Tryd.prog V = .ok (.agg #[.int .i64 a, .slice A n c]) V := by
  obtain ⟨c0, c1⟩ := hb
  simp [results, Tryd.results11, h2, go_sem, c0, c1]

theorem set_getD (l : List Int) (j : Nat) : l.set j (l.getD j 0) = l := by
  apply List.ext_getElem?
  intro k
  rw [List.getElem?_set]
  split
  · rename_i h; subst h
    split
    · rename_i h; simp [List.getD, List.getElem?_eq_getElem h]
    · rename_i h; simp at h; rw [List.getElem?_eq_none h]
  · rfl

/-- What the document's Of keeps in memory. -/
structure Rrm (w wr : World) (gr : Nat) (ds : List Int) (j1 j2 : Int) (c : Cd) : Prop where
  g : At.Rx wr gr ds
  i : At.Ib wr (w.heap.size + 1) j1 j2
  a : At.Ax wr (w.heap.size + 1 + 1) 0 none 0 0
  c : Cb wr w.heap.size c.u c.s c.k c.h c.n c.t
  b : Below w.heap.size w wr
theorem Rrm.on {w wr w' : World} {gr : Nat} {ds : List Int} {j1 j2 : Int} {c : Cd} (h : Rrm w wr gr ds j1 j2 c) (h1 : w.heap.size + 1 + 1 < gr) (hb : Below (gr + 1) wr w') : Rrm w w' gr ds j1 j2 c :=
  ⟨(hb.block gr (by omega)).trans h.g, h.i.on hb (by omega), h.a.on hb (by omega), h.c.on hb (by omega), h.b.trans (hb.mono (by omega))⟩
theorem Rrm.set {w wr : World} {gr : Nat} {ds : List Int} {j1 j2 : Int} {c : Cd} (h : Rrm w wr gr ds j1 j2 c) (h1 : w.heap.size + 1 + 1 < gr) (j : Nat) (x : Int) : Rrm w (wr.setCell ⟨gr, j, none⟩ (.int .i64 x)) gr (ds.set j x) j1 j2 c := by
  have hb : Below gr wr (wr.setCell ⟨gr, j, none⟩ (.int .i64 x)) := (Below.refl _ _).setCell (p := ⟨gr, j, none⟩) (Nat.le_refl gr) _
  exact ⟨h.g.set j x, h.i.on hb (by omega), h.a.on hb (by omega), h.c.on hb (by omega), h.b.trans (hb.mono (by omega))⟩

theorem Rrm.drew {w wr : World} {gr : Nat} {ds : List Int} {j1 j2 : Int} {c : Cd} (h : Rrm w wr gr ds j1 j2 c) : Rrm w wr.drew gr ds j1 j2 c := ⟨h.g, h.i, h.a, h.c, h.b.drew⟩

/-- The number is no greater than the greatest asks. -/
theorem isat_hi {P : Int × Int → Int → Prop} {N : Nat} {s : Int} {ds : List Int} (h : IsAt P N s ds) (hq : ∀ i q, P i q → q ≤ 1099511627776) : s ≤ 1099511627777 := by
  rcases h.one with e | ⟨i, q, hp, e⟩
  · omega
  · have := hq i q hp; rw [e, sn_low this]; omega

set_option maxHeartbeats 4000000 in
theorem of_ref (N : Nat) (n u s kk h m j1 j2 : Int) (t : ByteArray) (A : Option Addr) (cp : Nat) (l : List Kn) (w : World) (hn : am n = (N : Int)) (hN7 : N ≤ 7) (hl : l.length ≤ 1000) (hs : Ns w w.heap.size A l) (hhi : ∀ k ∈ l, k.q ≤ 1099511627776) :
    Calls Tryd.prog 11 #[.slice A l.length cp, cv u s kk h m t, .agg #[.int .i64 j1, .int .i64 j2], .int .i64 n] w (AtP w (Pq (am n) l ⟨u, s, kk, h, m, t⟩ (j1, j2)) N) := by
  obtain ⟨ti, hi, hz0, hz1, hz2⟩ := info_parts At.info3
  have HA : ∀ W, Hid (Calls Tryd.prog 26 #[.int .i64 n] W fun e w' => e = .returned (.int .i64 (N : Int)) ∧ w' = W) := fun W => by have := bound_any n W; rw [hn] at this; exact this
  have HMy : ∀ (k : Kn) W, Hid (Calls Tryd.prog 27 #[iv k.i, .int .i64 (N : Int)] W (BoolPost W (mb k.i (N : Int)))) := fun k W => may27_any k.i N W
  have HIt : ∀ (k : Kn) W, Hid (Calls Tryd.prog 28 #[cv u s kk h m t, cv k.c.u k.c.s k.c.k k.c.h k.c.n k.c.t] W (BoolPost W (itf k.c ⟨u, s, kk, h, m, t⟩))) := fun k W => by have := ritf_any ⟨u, s, kk, h, m, t⟩ k.c W; rw [itf_comm] at this; exact this
  have B0 : Below w.heap.size w (((w.alloc (.cells #[.int .i64 u, .int .i64 s, .int .i64 kk, .int .i64 h, .int .i64 m, .string t] 24)).alloc (.cells #[.int .i64 j1, .int .i64 j2] 26)).alloc (.cells #[.int .i64 0, .slice none 0 0] 32)) := (((Below.refl _ _).alloc (Nat.le_refl _) _).alloc (by simp) _).alloc (by simp; omega) _
  have Z0 : (((w.alloc (.cells #[.int .i64 u, .int .i64 s, .int .i64 kk, .int .i64 h, .int .i64 m, .string t] 24)).alloc (.cells #[.int .i64 j1, .int .i64 j2] 26)).alloc (.cells #[.int .i64 0, .slice none 0 0] 32)).heap.size = w.heap.size + 1 + 1 + 1 := by simp
  have C0 : Cb (((w.alloc (.cells #[.int .i64 u, .int .i64 s, .int .i64 kk, .int .i64 h, .int .i64 m, .string t] 24)).alloc (.cells #[.int .i64 j1, .int .i64 j2] 26)).alloc (.cells #[.int .i64 0, .slice none 0 0] 32)) w.heap.size u s kk h m t := ((cb_new w u s kk h m t).on ((Below.refl _ _).alloc (Nat.le_refl _) _) (by simp)).on ((Below.refl _ _).alloc (Nat.le_refl _) _) (by simp; omega)
  have I0 : At.Ib (((w.alloc (.cells #[.int .i64 u, .int .i64 s, .int .i64 kk, .int .i64 h, .int .i64 m, .string t] 24)).alloc (.cells #[.int .i64 j1, .int .i64 j2] 26)).alloc (.cells #[.int .i64 0, .slice none 0 0] 32)) (w.heap.size + 1) j1 j2 := by
    have h1 := At.ib_new (w.alloc (.cells #[.int .i64 u, .int .i64 s, .int .i64 kk, .int .i64 h, .int .i64 m, .string t] 24)) j1 j2
    rw [show (w.alloc (.cells #[.int .i64 u, .int .i64 s, .int .i64 kk, .int .i64 h, .int .i64 m, .string t] 24)).heap.size = w.heap.size + 1 by simp] at h1
    exact h1.on ((Below.refl _ _).alloc (Nat.le_refl _) _) (by simp)
  have A0 : At.Ax (((w.alloc (.cells #[.int .i64 u, .int .i64 s, .int .i64 kk, .int .i64 h, .int .i64 m, .string t] 24)).alloc (.cells #[.int .i64 j1, .int .i64 j2] 26)).alloc (.cells #[.int .i64 0, .slice none 0 0] 32)) (w.heap.size + 1 + 1) 0 none 0 0 := by
    have h1 := At.ax_new ((w.alloc (.cells #[.int .i64 u, .int .i64 s, .int .i64 kk, .int .i64 h, .int .i64 m, .string t] 24)).alloc (.cells #[.int .i64 j1, .int .i64 j2] 26)) 0 none 0 0
    rwa [show ((w.alloc (.cells #[.int .i64 u, .int .i64 s, .int .i64 kk, .int .i64 h, .int .i64 m, .string t] 24)).alloc (.cells #[.int .i64 j1, .int .i64 j2] 26)).heap.size = w.heap.size + 1 + 1 by simp] at h1
  rw [hn]
  have HS := Lib.hid hs
  have HHI := Lib.hid hhi
  clear hs hhi hn
  go_enter Tryd.func11, Tryd.ntmps11
  go_wp2_with fail
  generalize (((w.alloc (.cells #[.int .i64 u, .int .i64 s, .int .i64 kk, .int .i64 h, .int .i64 m, .string t] 24)).alloc (.cells #[.int .i64 j1, .int .i64 j2] 26)).alloc (.cells #[.int .i64 0, .slice none 0 0] 32)) = W0 at *
  refine (HA _).out.mono ?_
  rintro e W0 ⟨rfl, rfl⟩
  have hbase : w.heap.size ≤ W0.heap.size := by omega
  have hn0 : (0 : Int) ≤ (N : Int) := by omega
  have hzz : w.heap.size + 1 + 1 < W0.heap.size := by omega
  clear Z0
  go_wp2_with (at_make; refine wpList_make_full _ rfl _ _ 30 rfl w.heap.size 3 ti (.int .i64 0) 1 Tryd.underlying30 hi hz0 hz1 _ _ _ _ N rfl rfl rfl rfl (by rw [hz2]; omega) (by unfold maxLen; omega) hbase ?_; intro W2 hown2 hgrow2)
  have BG : Below W0.heap.size W0 W2 := (Below.refl _ _).grown hgrow2 (Nat.le_refl _) (by simp)
  rw [At.made_ints] at hown2
  have M2 : Rrm w W2 W0.heap.size (List.replicate N 0) j1 j2 ⟨u, s, kk, h, m, t⟩ := ⟨At.rx_made hown2, I0.on BG (by omega), A0.on BG (by omega), C0.on BG (by omega), B0.trans (BG.mono (by omega))⟩
  clear hown2 hgrow2 BG B0 C0 I0 A0 hi hz0 hz1 hz2 HA
  generalize W0.heap.size = gr at *
  go_loopw [10, 12] (fun vs tt wr => ∃ (p : Nat) (sq : Int) (ds : List Int), p ≤ l.length ∧ vs = .int .i64 (sq - 1) ∧ tt = .int .i64 (p : Int) ∧ IsAt (Pq (N : Int) (l.take p) ⟨u, s, kk, h, m, t⟩ (j1, j2)) N sq ds ∧ Rrm w wr gr ds j1 j2 ⟨u, s, kk, h, m, t⟩) (fun _ tt _ => 1001 - (intOf tt).toNat)
  case atStart => exact ⟨0, 1, _, Nat.zero_le _, rfl, rfl, (is_none N).congr (fun i q => ⟨fun h => h.elim, fun ⟨k, hk, _⟩ => by simp at hk⟩), M2⟩
  case round =>
    obtain ⟨p, sq, ds, hp, rfl, rfl, hIS, hM⟩ := hrel
    have HIS := Lib.hid hIS
    have hsq : sq ≤ 1099511627777 := isat_hi hIS (fun i q ⟨k, hk, _, _, _, _, e⟩ => by rw [← e]; exact HHI.out k (List.mem_of_mem_take hk))
    have hsq1 := hIS.pos
    have hz := hM.g.lt
    clear hIS M2
    by_cases hlp : p < l.length
    · have hlpi : (p : Int) < (l.length : Int) := by omega
      have hp0 : (0 : Int) ≤ (p : Int) := by omega
      rcases (HS.out.below hM.b (Nat.le_refl _)) with rfl | ⟨b, off, rfl, hb, hc⟩
      · simp at hlp
      have HQ := Lib.hid (fun i q => pq_step (N := (N : Int)) (l := l) (c := ⟨u, s, kk, h, m, t⟩) (self := (j1, j2)) hlp i q)
      have hcell := hc p l[p] (List.getElem?_eq_getElem hlp)
      have hqh := HHI.out l[p] (List.getElem_mem hlp)
      generalize l[p] = y at *
      have HM1 := HMy y
      have HI1 := HIt y
      generalize hmb : mb y.i (N : Int) = mbb at *
      generalize hif : itf y.c ⟨u, s, kk, h, m, t⟩ = ib at *
      have HMB := Lib.hid hmb
      obtain ⟨⟨i1, i2⟩, ⟨yu, ys, yk, yh, yn, yt⟩, q⟩ := y
      have hb' : b < wr.heap.size := by have := hM.b.size; omega
      obtain ⟨e0, e1, e2, e3, e4, e5, e6, e7, e8⟩ := hcell
      clear hc HMy HIt hmb hif
      have BK : Below wr.heap.size wr (wr.alloc (.cells #[.int .i64 i1, .int .i64 i2, .int .i64 yu, .int .i64 ys, .int .i64 yk, .int .i64 yh, .int .i64 yn, .string yt, .int .i64 q] 29)) := (Below.refl _ _).alloc (Nat.le_refl _) _
      have N3 := nb_new wr ⟨(i1, i2), ⟨yu, ys, yk, yh, yn, yt⟩, q⟩
      have M3 := hM.on hzz (BK.mono (by omega))
      have zk : wr.heap.size < (wr.alloc (.cells #[.int .i64 i1, .int .i64 i2, .int .i64 yu, .int .i64 ys, .int .i64 yk, .int .i64 yh, .int .i64 yn, .string yt, .int .i64 q] 29)).heap.size := by simp
      have hgk : gr < wr.heap.size := hz
      go_wp2_with fail
      clear e0 e1 e2 e3 e4 e5 e6 e7 e8
      generalize (wr.alloc (.cells #[.int .i64 i1, .int .i64 i2, .int .i64 yu, .int .i64 ys, .int .i64 yk, .int .i64 yh, .int .i64 yn, .string yt, .int .i64 q] 29)) = W3 at *
      generalize wr.heap.size = kb at *
      refine (HM1 _).out.mono ?_
      rintro e W4 ⟨rfl, B4⟩
      have z4 := B4.size
      have N4 := N3.on B4 zk
      have M4 := M3.on hzz (B4.mono (by omega))
      obtain ⟨n0, n1, n2, n3, n4, n5, n6, n7, n8⟩ := id N4
      obtain ⟨c0, c1, c2, c3, c4, c5⟩ := M4.c
      go_wp2_with fail
      clear n0 n1 n2 n3 n4 n5 n6 n7 n8 c0 c1 c2 c3 c4 c5 N3 M3 B4
      refine (HI1 _).out.mono ?_
      rintro e W5 ⟨rfl, B5⟩
      have z5 := B5.size
      have N5 := N4.on B5 (by omega)
      have M5 := M4.on hzz (B5.mono (by omega))
      obtain ⟨n0, n1, n2, n3, n4, n5, n6, n7, n8⟩ := id N5
      obtain ⟨d0, d1⟩ := M5.i
      clear N4 M4 B5 HM1 HI1
      have HSKIP : Hid ((mbb = true → (i1, i2) ≠ (j1, j2) → ib = true → False) → IsAt (Pq (N : Int) (l.take (p + 1)) ⟨u, s, kk, h, m, t⟩ (j1, j2)) N sq ds) := fun hno => HIS.out.congr (fun i q => ⟨fun h => (HQ.out i q).2 (.inl h), fun h => ((HQ.out i q).1 h).resolve_right (fun h => hno (by first | exact h.1 | (rw [← HMB.out]; exact h.1)) h.2.1 h.2.2.1)⟩)
      cases mbb
      · go_wp2
        go_roundw
        case rel => exact ⟨p + 1, sq, ds, by omega, rfl, by go_num, HSKIP.out (fun h => by simp at h), M5⟩
        case measure => simp [intOf]; omega
      · cases ib
        · go_wp2
          go_roundw
          case rel => exact ⟨p + 1, sq, ds, by omega, rfl, by go_num, HSKIP.out (fun _ _ h => by simp at h), M5⟩
          case measure => simp [intOf]; omega
        · by_cases hsf : (i1, i2) = (j1, j2)
          · have hsb := same_yes hsf
            go_wp2
            go_roundw
            case rel => exact ⟨p + 1, sq, ds, by omega, rfl, by go_num, HSKIP.out (fun _ h _ => h hsf), M5⟩
            case measure => simp [intOf]; omega
          · have hsb := same_no hsf
            obtain ⟨g1, g2, g3, g4⟩ := mb_iff.1 HMB.out
            have g3' : 0 ≤ i2 := by simp only at g3; omega
            have IS6 := Lib.hid ((HIS.out.step (i1, i2) q g1 g2 g3').congr (fun i q' => (show _ ↔ Pq (N : Int) (l.take (p + 1)) ⟨u, s, kk, h, m, t⟩ (j1, j2) i q' from ⟨fun h => (HQ.out i q').2 (h.imp id (fun h => ⟨by first | exact HMB.out | trivial, hsf, by first | rfl | trivial, h.1, h.2⟩)), fun h => ((HQ.out i q').1 h).imp id (fun h => h.2.2.2)⟩)))
            have hlen := HIS.out.len
            simp only at g1 g2
            obtain ⟨j, rfl⟩ : ∃ j : Nat, i1 = (j : Int) + 1 := ⟨(i1 - 1).toNat, by omega⟩
            have hjn : ((j : Int) + 1 - 1).toNat = j := by omega
            rw [show (((j : Int) + 1, i2) : Int × Int).1 = (j : Int) + 1 from rfl, show (((j : Int) + 1, i2) : Int × Int).2 = i2 from rfl, hjn, sn_low hqh] at IS6
            have hjd : j < ds.length := by omega
            have ry := M5.g.cell hjd
            have fy := M5.g.free j
            have HSG := Lib.hid (set_getD ds j)
            generalize ds.getD j 0 = y at *
            have hji : (j : Int) < (N : Int) := by omega
            have hj0 : (0 : Int) ≤ (j : Int) := by omega
            have hsub : IntKind.i64.wrap ((j : Int) + 1 - 1) = (j : Int) := by rw [show (j : Int) + 1 - 1 = (j : Int) by omega]; exact IntWalk.i64_in _ (by omega)
            have HLEN := Lib.hid hlen
            clear HIS HSKIP HQ hjn hlen
            by_cases hA : sq - 1 < q
            · by_cases hB : y < i2
              · have hm1 : max sq (q + 1) = q + 1 := by omega
                have hm2 : max y i2 = i2 := by omega
                rw [hm1, hm2] at IS6
                clear hm1 hm2
                go_wp2_with fail
                go_region
                go_wp2
                go_roundw
                case rel => exact ⟨p + 1, q + 1, ds.set j i2, by omega, by rw [show q + 1 - 1 = q by omega], by go_num, IS6.out, (by first | exact M5.set hzz j i2 | exact (M5.drew).set hzz j i2)⟩
                case measure => simp [intOf]; omega
              · have hm1 : max sq (q + 1) = q + 1 := by omega
                have hm2 : max y i2 = y := by omega
                rw [hm1, hm2, HSG.out] at IS6
                clear hm1 hm2
                go_wp2_with fail
                go_region
                go_wp2
                go_roundw
                case rel => exact ⟨p + 1, q + 1, ds, by omega, by rw [show q + 1 - 1 = q by omega], by go_num, IS6.out, (by first | exact M5 | exact M5.drew)⟩
                case measure => simp [intOf]; omega
            · by_cases hB : y < i2
              · have hm1 : max sq (q + 1) = sq := by omega
                have hm2 : max y i2 = i2 := by omega
                rw [hm1, hm2] at IS6
                clear hm1 hm2
                go_wp2_with fail
                go_region
                go_wp2
                go_roundw
                case rel => exact ⟨p + 1, sq, ds.set j i2, by omega, rfl, by go_num, IS6.out, (by first | exact M5.set hzz j i2 | exact (M5.drew).set hzz j i2)⟩
                case measure => simp [intOf]; omega
              · have hm1 : max sq (q + 1) = sq := by omega
                have hm2 : max y i2 = y := by omega
                rw [hm1, hm2, HSG.out] at IS6
                clear hm1 hm2
                go_wp2_with fail
                go_region
                go_wp2
                go_roundw
                case rel => exact ⟨p + 1, sq, ds, by omega, rfl, by go_num, IS6.out, (by first | exact M5 | exact M5.drew)⟩
                case measure => simp [intOf]; omega
    · obtain rfl : p = l.length := by omega
      obtain ⟨a0, a1⟩ := hM.a.rb
      have f0 := hM.a.free 0
      have f1 := hM.a.free 1
      have hlast := HIS.out
      rw [List.take_length] at hlast
      have HIL := Lib.hid hlast
      have hsx : sq - 1 + 1 = sq := by omega
      have HSX := Lib.hid hsx
      clear hlast HS HHI HMy HIt hsx
      generalize hsm : sq - 1 = sm at *
      have hsm1 : sm ≤ 1099511627776 := by omega
      have hsm2 : 0 ≤ sm := by omega
      have hsm3 : Hid (sq = sm + 1) := by show _ = _; omega
      clear hsm HSX
      go_wp2
      have X9 : At.Ax ((wr.setCell ⟨w.heap.size + 1 + 1, 0, none⟩ (.int .i64 (sm + 1))).setCell ⟨w.heap.size + 1 + 1, 1, none⟩ (.slice (some ⟨gr, 0, none⟩) N N)) (w.heap.size + 1 + 1) (sm + 1) (some ⟨gr, 0, none⟩) N N := (hM.a.set0 (sm + 1)).set1 _ _ _
      have R9 : At.Rx ((wr.setCell ⟨w.heap.size + 1 + 1, 0, none⟩ (.int .i64 (sm + 1))).setCell ⟨w.heap.size + 1 + 1, 1, none⟩ (.slice (some ⟨gr, 0, none⟩) N N)) gr ds := (hM.g.other (by show gr ≠ w.heap.size + 1 + 1; omega) _).other (by show gr ≠ w.heap.size + 1 + 1; omega) _
      have E9 : Below w.heap.size w ((wr.setCell ⟨w.heap.size + 1 + 1, 0, none⟩ (.int .i64 (sm + 1))).setCell ⟨w.heap.size + 1 + 1, 1, none⟩ (.slice (some ⟨gr, 0, none⟩) N N)) := (hM.b.setCell (by show w.heap.size ≤ w.heap.size + 1 + 1; omega) _).setCell (by show w.heap.size ≤ w.heap.size + 1 + 1; omega) _
      refine bodyPost_ret (run_res11 (B := w.heap.size + 1 + 1) rfl X9.rb) rfl ⟨sm + 1, ds, gr, rfl, R9, by omega, E9, hsm3.out ▸ HIL.out⟩

end Go.Proofs.YtmeklhlojogdnaaDoor
