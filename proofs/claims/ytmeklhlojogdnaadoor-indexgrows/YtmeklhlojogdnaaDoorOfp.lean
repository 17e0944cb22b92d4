/-
  The walk of index.Of: what a command waits for is just as great as what of the list interferes with it asks for. Conditions: the table of what kinds need reads as its initialiser lays it; at most 1000 that are known; their numbers are ones that an int holds.
-/
import Derived.Test.YtmeklhlojogdnaaDoorAr
import Derived.Test.YtmeklhlojogdnaaDoorNsm
namespace Go.Proofs.YtmeklhlojogdnaaDoor
open Go.RowKit
set_option linter.unusedVariables false
attribute [local go_sem ↓ high] eq26 guard26 neq26 guard26n

theorem run_res10 {V : World} {tm : Array Value} {B : Nat} {a : Int} {A : Option Addr} {n c : Nat} (h2 : tm[8]?.getD undef = .pointer (some ⟨B, 0, none⟩)) (hb : At.Rb V B a A n c) :
    (results Tryd.f10 tm).run Tryd.prog V = .ok (.agg #[.int .i64 a, .slice A n c]) V := by
  obtain ⟨c0, c1⟩ := hb
  simp [results, Tryd.results10, h2, go_sem, c0, c1]

/-- What Of's loop keeps in memory. -/
structure Orm (w wr : World) (P gr N : Nat) (s : Int) (ds : List Int) (j1 j2 : Int) (c : Cd) : Prop where
  p : At.Ax wr P s (some ⟨gr, 0, none⟩) N N
  g : At.Rx wr gr ds
  i : At.Ib wr (w.heap.size + 1) j1 j2
  a : At.Ax wr (w.heap.size + 1 + 1) 0 none 0 0
  c : Cb wr w.heap.size c.u c.s c.k c.h c.n c.t
  b : Below w.heap.size w wr
theorem Orm.on {w wr w' : World} {P gr N : Nat} {s : Int} {ds : List Int} {j1 j2 : Int} {c : Cd} (h : Orm w wr P gr N s ds j1 j2 c) (h1 : w.heap.size + 1 + 1 < gr) (h2 : gr < P) (hb : Below (P + 1) wr w') : Orm w w' P gr N s ds j1 j2 c :=
  ⟨h.p.on hb (by omega), (hb.block gr (by omega)).trans h.g, h.i.on hb (by omega), h.a.on hb (by omega), h.c.on hb (by omega), h.b.trans (hb.mono (by omega))⟩
theorem Orm.wait {w wr w' : World} {P gr N : Nat} {s s' : Int} {ds ds' : List Int} {j1 j2 : Int} {c : Cd} {e : Ending} (h : Orm w wr P gr N s ds j1 j2 c) (h1 : w.heap.size + 1 + 1 < gr) (h2 : gr < P) (hp : WtPost wr P gr N s' ds' e w') : Orm w w' P gr N s' ds' j1 j2 c := by
  obtain ⟨_, p, g, o⟩ := hp
  have hz := h.p.lt
  have hs := h.b.size
  have ob : Below gr wr w' := o.below (fun r h => by omega) (by omega)
  exact ⟨p, g, h.i.on ob (by omega), h.a.on ob (by omega), h.c.on ob (by omega), h.b.trans (ob.mono (by omega))⟩

set_option maxHeartbeats 4000000 in
theorem of_prog (N : Nat) (n u s kk h m j1 j2 : Int) (t : ByteArray) (A : Option Addr) (cp : Nat) (l : List Kn) (w : World) (hN : Nd w) (hn : am n = (N : Int)) (hN7 : N ≤ 7) (hl : l.length ≤ 1000) (hs : Ns w w.heap.size A l) (hlow : ∀ k ∈ l, -9223372036854775808 ≤ k.q) :
    Calls Tryd.prog 10 #[.slice A l.length cp, cv u s kk h m t, .agg #[.int .i64 j1, .int .i64 j2], .int .i64 n] w (AtP w (Pq (am n) l ⟨u, s, kk, h, m, t⟩ (j1, j2)) N) := by
  have HA : ∀ W, Hid (Calls Tryd.prog 22 #[.int .i64 n] W fun e w' => e = .returned (.int .i64 (N : Int)) ∧ w' = W) := fun W => by have := among_any n W; rw [hn] at this; exact this
  have HNo : ∀ W, Hid (Calls Tryd.prog 23 #[.int .i64 (N : Int)] W fun e w' => ∃ g, e = .returned (.agg #[.int .i64 1, .slice (some ⟨g, 0, none⟩) N N]) ∧ At.Rx w' g (List.replicate N 0) ∧ W.heap.size ≤ g ∧ Below W.heap.size W w') := fun W => by have := nothing_any N (by omega) W; unfold AxPost at this; rw [List.length_replicate] at this; exact this
  have HMy : ∀ (k : Kn) W, Hid (Calls Tryd.prog 24 #[iv k.i, .int .i64 (N : Int)] W (BoolPost W (mb k.i (N : Int)))) := fun k W => may24_any k.i N W
  have HIt : ∀ (k : Kn) W, Nd W → Hid (Calls Tryd.prog 18 #[cv k.c.u k.c.s k.c.k k.c.h k.c.n k.c.t, cv u s kk h m t] W (BoolPost W (itf k.c ⟨u, s, kk, h, m, t⟩))) := fun k W h' => itf_any k.c ⟨u, s, kk, h, m, t⟩ W h'
  have B0 : Below w.heap.size w (((w.alloc (.cells #[.int .i64 u, .int .i64 s, .int .i64 kk, .int .i64 h, .int .i64 m, .string t] 24)).alloc (.cells #[.int .i64 j1, .int .i64 j2] 26)).alloc (.cells #[.int .i64 0, .slice none 0 0] 32)) := (((Below.refl _ _).alloc (Nat.le_refl _) _).alloc (by simp) _).alloc (by simp; omega) _
  have Z0 : (((w.alloc (.cells #[.int .i64 u, .int .i64 s, .int .i64 kk, .int .i64 h, .int .i64 m, .string t] 24)).alloc (.cells #[.int .i64 j1, .int .i64 j2] 26)).alloc (.cells #[.int .i64 0, .slice none 0 0] 32)).heap.size = w.heap.size + 1 + 1 + 1 := by simp
  have C0 : Cb (((w.alloc (.cells #[.int .i64 u, .int .i64 s, .int .i64 kk, .int .i64 h, .int .i64 m, .string t] 24)).alloc (.cells #[.int .i64 j1, .int .i64 j2] 26)).alloc (.cells #[.int .i64 0, .slice none 0 0] 32)) w.heap.size u s kk h m t := ((cb_new w u s kk h m t).on ((Below.refl _ _).alloc (Nat.le_refl _) _) (by simp)).on ((Below.refl _ _).alloc (Nat.le_refl _) _) (by simp; omega)
  have I0 : At.Ib (((w.alloc (.cells #[.int .i64 u, .int .i64 s, .int .i64 kk, .int .i64 h, .int .i64 m, .string t] 24)).alloc (.cells #[.int .i64 j1, .int .i64 j2] 26)).alloc (.cells #[.int .i64 0, .slice none 0 0] 32)) (w.heap.size + 1) j1 j2 := by
    have h1 := At.ib_new (w.alloc (.cells #[.int .i64 u, .int .i64 s, .int .i64 kk, .int .i64 h, .int .i64 m, .string t] 24)) j1 j2
    rw [show (w.alloc (.cells #[.int .i64 u, .int .i64 s, .int .i64 kk, .int .i64 h, .int .i64 m, .string t] 24)).heap.size = w.heap.size + 1 by simp] at h1
    exact h1.on ((Below.refl _ _).alloc (Nat.le_refl _) _) (by simp)
  have A0 : At.Ax (((w.alloc (.cells #[.int .i64 u, .int .i64 s, .int .i64 kk, .int .i64 h, .int .i64 m, .string t] 24)).alloc (.cells #[.int .i64 j1, .int .i64 j2] 26)).alloc (.cells #[.int .i64 0, .slice none 0 0] 32)) (w.heap.size + 1 + 1) 0 none 0 0 := by
    have h1 := At.ax_new ((w.alloc (.cells #[.int .i64 u, .int .i64 s, .int .i64 kk, .int .i64 h, .int .i64 m, .string t] 24)).alloc (.cells #[.int .i64 j1, .int .i64 j2] 26)) 0 none 0 0
    rwa [show ((w.alloc (.cells #[.int .i64 u, .int .i64 s, .int .i64 kk, .int .i64 h, .int .i64 m, .string t] 24)).alloc (.cells #[.int .i64 j1, .int .i64 j2] 26)).heap.size = w.heap.size + 1 + 1 by simp] at h1
  rw [hn]
  have HS := Lib.hid hs
  have HLW := Lib.hid hlow
  clear hs hlow hn
  go_enter Tryd.func10, Tryd.ntmps10
  go_wp2_with fail
  generalize (((w.alloc (.cells #[.int .i64 u, .int .i64 s, .int .i64 kk, .int .i64 h, .int .i64 m, .string t] 24)).alloc (.cells #[.int .i64 j1, .int .i64 j2] 26)).alloc (.cells #[.int .i64 0, .slice none 0 0] 32)) = W0 at *
  refine (HA _).out.mono ?_
  rintro e w1 ⟨rfl, rfl⟩
  go_wp2_with fail
  refine (HNo _).out.mono ?_
  rintro e W1 ⟨gr, rfl, R1, hg1, B1⟩
  have z1 := B1.size
  have hgl := R1.lt
  have BP : Below W1.heap.size W1 (W1.alloc (.cells #[.int .i64 1, .slice (some ⟨gr, 0, none⟩) N N] 32)) := (Below.refl _ _).alloc (Nat.le_refl _) _
  have B02 := B0.trans ((B1.trans (BP.mono z1)).mono (by omega))
  have M2 : Orm w (W1.alloc (.cells #[.int .i64 1, .slice (some ⟨gr, 0, none⟩) N N] 32)) W1.heap.size gr N 1 (List.replicate N 0) j1 j2 ⟨u, s, kk, h, m, t⟩ := ⟨At.ax_new W1 1 _ N N, R1.old _, (I0.on B1 (by omega)).on BP (by omega), (A0.on B1 (by omega)).on BP (by omega), (C0.on B1 (by omega)).on BP (by omega), B02⟩
  have Z2 : W1.heap.size < (W1.alloc (.cells #[.int .i64 1, .slice (some ⟨gr, 0, none⟩) N N] 32)).heap.size := by simp
  clear C0 I0 A0 R1 B1 BP B0 B02 HA HNo
  go_wp2_with fail
  generalize (W1.alloc (.cells #[.int .i64 1, .slice (some ⟨gr, 0, none⟩) N N] 32)) = W2 at *
  generalize W1.heap.size = P at *
  have hzz : w.heap.size + 1 + 1 < gr := by omega
  go_loopw [18] (fun tt wr => ∃ (p : Nat) (sq : Int) (ds : List Int), p ≤ l.length ∧ tt = .int .i64 (p : Int) ∧ IsAt (Pq (N : Int) (l.take p) ⟨u, s, kk, h, m, t⟩ (j1, j2)) N sq ds ∧ Orm w wr P gr N sq ds j1 j2 ⟨u, s, kk, h, m, t⟩ ∧ P < wr.heap.size) (fun tt _ => 1001 - (intOf tt).toNat)
  case atStart => exact ⟨0, 1, _, Nat.zero_le _, rfl, (is_none N).congr (fun i q => ⟨fun h => h.elim, fun ⟨k, hk, _⟩ => by simp at hk⟩), M2, Z2⟩
  case round =>
    obtain ⟨p, sq, ds, hp, rfl, hIS, hM, hz⟩ := hrel
    have HIS := Lib.hid hIS
    clear hIS M2 Z2
    by_cases hlp : p < l.length
    · have hlpi : (p : Int) < (l.length : Int) := by omega
      have hp0 : (0 : Int) ≤ (p : Int) := by omega
      rcases (HS.out.below hM.b (Nat.le_refl _)) with rfl | ⟨b, off, rfl, hb, hc⟩
      · simp at hlp
      have HQ := Lib.hid (fun i q => pq_step (N := (N : Int)) (l := l) (c := ⟨u, s, kk, h, m, t⟩) (self := (j1, j2)) hlp i q)
      have hcell := hc p l[p] (List.getElem?_eq_getElem hlp)
      have hlw := HLW.out l[p] (List.getElem_mem hlp)
      generalize l[p] = y at *
      have HM1 := HMy y
      have HI1 := HIt y
      generalize hmb : mb y.i (N : Int) = mbb at *
      generalize hif : itf y.c ⟨u, s, kk, h, m, t⟩ = ib at *
      have HMB := Lib.hid hmb
      obtain ⟨⟨i1, i2⟩, ⟨yu, ys, yk, yh, yn, yt⟩, q⟩ := y
      have hb' : b < wr.heap.size := by have := hM.b.size; omega
      obtain ⟨e0, e1, e2, e3, e4, e5, e6, e7, e8⟩ := hcell
      clear hc HMy HIt hmb hif
      have BK : Below wr.heap.size wr (wr.alloc (.cells #[.int .i64 i1, .int .i64 i2, .int .i64 yu, .int .i64 ys, .int .i64 yk, .int .i64 yh, .int .i64 yn, .string yt, .int .i64 q] 29)) := (Below.refl _ _).alloc (Nat.le_refl _) _
      have N3 := nb_new wr ⟨(i1, i2), ⟨yu, ys, yk, yh, yn, yt⟩, q⟩
      have M3 := hM.on hzz hgl (BK.mono (by omega))
      have Z3 : P < (wr.alloc (.cells #[.int .i64 i1, .int .i64 i2, .int .i64 yu, .int .i64 ys, .int .i64 yk, .int .i64 yh, .int .i64 yn, .string yt, .int .i64 q] 29)).heap.size := Nat.lt_of_lt_of_le hz BK.size
      have zk : wr.heap.size < (wr.alloc (.cells #[.int .i64 i1, .int .i64 i2, .int .i64 yu, .int .i64 ys, .int .i64 yk, .int .i64 yh, .int .i64 yn, .string yt, .int .i64 q] 29)).heap.size := by simp
      have N0 : Nd (wr.alloc (.cells #[.int .i64 i1, .int .i64 i2, .int .i64 yu, .int .i64 ys, .int .i64 yk, .int .i64 yh, .int .i64 yn, .string yt, .int .i64 q] 29)) := (hN.on M3.b)
      go_wp2_with fail
      clear e0 e1 e2 e3 e4 e5 e6 e7 e8
      generalize (wr.alloc (.cells #[.int .i64 i1, .int .i64 i2, .int .i64 yu, .int .i64 ys, .int .i64 yk, .int .i64 yh, .int .i64 yn, .string yt, .int .i64 q] 29)) = W3 at *
      generalize wr.heap.size = kb at *
      refine (HM1 _).out.mono ?_
      rintro e W4 ⟨rfl, B4⟩
      have z4 := B4.size
      have N4 := N3.on B4 zk
      have M4 := M3.on hzz hgl (B4.mono (by omega))
      have Nd4 := N0.on B4
      obtain ⟨n0, n1, n2, n3, n4, n5, n6, n7, n8⟩ := id N4
      obtain ⟨d0, d1⟩ := M4.i
      obtain ⟨c0, c1, c2, c3, c4, c5⟩ := M4.c
      have Z4 : P < W4.heap.size := by omega
      clear N3 M3 B4 HM1 N0
      have HSKIP : Hid ((mbb = true → (i1, i2) ≠ (j1, j2) → ib = true → False) → IsAt (Pq (N : Int) (l.take (p + 1)) ⟨u, s, kk, h, m, t⟩ (j1, j2)) N sq ds) := fun hno => HIS.out.congr (fun i q => ⟨fun h => (HQ.out i q).2 (.inl h), fun h => ((HQ.out i q).1 h).resolve_right (fun h => hno (by first | exact h.1 | (rw [← HMB.out]; exact h.1)) h.2.1 h.2.2.1)⟩)
      cases mbb
      · go_wp2
        go_roundw
        case rel => exact ⟨p + 1, sq, ds, by omega, by go_num, HSKIP.out (fun h => by simp at h), M4, Z4⟩
        case measure => simp [intOf]; omega
      · by_cases hsf : (i1, i2) = (j1, j2)
        · have hsb := same_yes hsf
          go_wp2
          go_roundw
          case rel => exact ⟨p + 1, sq, ds, by omega, by go_num, HSKIP.out (fun _ h _ => h hsf), M4, Z4⟩
          case measure => simp [intOf]; omega
        · have hsb := same_no hsf
          go_wp2_with fail
          clear n0 n1 n2 n3 n4 n5 n6 n7 n8 c0 c1 c2 c3 c4 c5 d0 d1
          refine (HI1 _ Nd4).out.mono ?_
          rintro e W5 ⟨rfl, B5⟩
          have z5 := B5.size
          have N5 := N4.on B5 (by omega)
          have M5 := M4.on hzz hgl (B5.mono (by omega))
          have Z5 : P < W5.heap.size := by omega
          obtain ⟨n0, n1, n2, n3, n4, n5, n6, n7, n8⟩ := id N5
          clear N4 M4 Nd4 HI1 B5
          cases ib
          · go_wp2
            go_roundw
            case rel => exact ⟨p + 1, sq, ds, by omega, by go_num, HSKIP.out (fun _ _ h => by simp at h), M5, Z5⟩
            case measure => simp [intOf]; omega
          · obtain ⟨g1, g2, g3, g4⟩ := mb_iff.1 HMB.out
            have g3' : 0 ≤ i2 := by simp only at g3; omega
            have IS6 := Lib.hid ((HIS.out.step (i1, i2) q g1 g2 g3').congr (fun i q' => (show _ ↔ Pq (N : Int) (l.take (p + 1)) ⟨u, s, kk, h, m, t⟩ (j1, j2) i q' from ⟨fun h => (HQ.out i q').2 (h.imp id (fun h => ⟨by first | exact HMB.out | trivial, hsf, by first | rfl | trivial, h.1, h.2⟩)), fun h => ((HQ.out i q').1 h).imp id (fun h => h.2.2.2)⟩)))
            have HW : Hid (Calls Tryd.prog 25 #[.pointer (some ⟨P, 0, none⟩), .agg #[.int .i64 i1, .int .i64 i2], .int .i64 q] W5 (WtPost W5 P gr N (max sq (sn q)) (ds.set (i1 - 1).toNat (max (ds.getD (i1 - 1).toNat 0) i2)))) := wait_any P gr N sq q (i1, i2) ds _ M5.p M5.g HIS.out.len (by omega) g1 g2 (by omega) hlw
            go_wp2_with fail
            refine HW.out.mono ?_
            rintro e W6 hpost
            have M6 := M5.wait hzz hgl hpost
            obtain ⟨rfl, _, _, o6⟩ := hpost
            have Z6 : P < W6.heap.size := Nat.lt_of_lt_of_le Z5 o6.size
            clear n0 n1 n2 n3 n4 n5 n6 n7 n8 HW o6 M5
            go_wp2
            go_roundw
            case rel => exact ⟨p + 1, _, _, by omega, by go_num, IS6.out, M6, Z6⟩
            case measure => simp [intOf]; omega
    · obtain rfl : p = l.length := by omega
      obtain ⟨p0, p1⟩ := hM.p.rb
      obtain ⟨a0, a1⟩ := hM.a.rb
      have f0 := hM.a.free 0
      have f1 := hM.a.free 1
      have hlast := HIS.out
      rw [List.take_length] at hlast
      have HIL := Lib.hid hlast
      clear hlast HS HLW HMy HIt
      go_wp2
      have X9 : At.Ax ((wr.setCell ⟨w.heap.size + 1 + 1, 0, none⟩ (.int .i64 sq)).setCell ⟨w.heap.size + 1 + 1, 1, none⟩ (.slice (some ⟨gr, 0, none⟩) N N)) (w.heap.size + 1 + 1) sq (some ⟨gr, 0, none⟩) N N := (hM.a.set0 sq).set1 _ _ _
      have R9 : At.Rx ((wr.setCell ⟨w.heap.size + 1 + 1, 0, none⟩ (.int .i64 sq)).setCell ⟨w.heap.size + 1 + 1, 1, none⟩ (.slice (some ⟨gr, 0, none⟩) N N)) gr ds := (hM.g.other (by show gr ≠ w.heap.size + 1 + 1; omega) _).other (by show gr ≠ w.heap.size + 1 + 1; omega) _
      have E9 : Below w.heap.size w ((wr.setCell ⟨w.heap.size + 1 + 1, 0, none⟩ (.int .i64 sq)).setCell ⟨w.heap.size + 1 + 1, 1, none⟩ (.slice (some ⟨gr, 0, none⟩) N N)) := (hM.b.setCell (by show w.heap.size ≤ w.heap.size + 1 + 1; omega) _).setCell (by show w.heap.size ≤ w.heap.size + 1 + 1; omega) _
      refine bodyPost_ret (run_res10 (B := w.heap.size + 1 + 1) rfl X9.rb) rfl ⟨sq, ds, gr, rfl, R9, by omega, E9, HIL.out⟩

end Go.Proofs.YtmeklhlojogdnaaDoor
