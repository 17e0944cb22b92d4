/-
  What any command waits for, behind any that were put, one in the other's place now and then, and how many are known, is what the document says: IndexRuns answers true whatever the list, the command, the instance and the number; they read as they did. Conditions: none beyond the card's own (the table of what kinds need reads as its initialiser lays it).
-/
import Derived.Test.YtmeklhlojogdnaaDoorAwk
import Derived.Test.YtmeklhlojogdnaaDoorOfr
import Derived.Test.YtmeklhlojogdnaaDoorAtRwi
import Derived.Test.YtmeklhlojogdnaaDoorAtSa
import Derived.Test.YtmeklhlojogdnaaDoorRpt
import Derived.Test.YtmeklhlojogdnaaDoorCards
import Derived.Test.YtmeklhlojogdnaaDoorTie
import Derived.SevenTiedAt
namespace Go.Proofs.YtmeklhlojogdnaaDoor.indexRuns
open Go.ChangeShapes Go.WideShapes Go.ChangeAt Go.RowKit Go.Joins
set_option linter.unusedVariables false

attribute [local go_sem ↓ high] eq26 guard26 neq26 guard26n

theorem rsame_yes (N : Nat) (h7 : N ≤ 7) (W : World) (g1 g2 : Nat) (s : Int) (ds : List Int) (hl : ds.length = N) (h1 : At.Rx W g1 ds) (h2 : At.Rx W g2 ds) :
    Calls Tryd.prog 12 #[.agg #[.int .i64 s, .slice (some ⟨g1, 0, none⟩) N N], .agg #[.int .i64 s, .slice (some ⟨g2, 0, none⟩) N N]] W (BoolPost W true) := by
  subst hl
  have := At.rsame_any s s (some ⟨g1, 0, none⟩) (some ⟨g2, 0, none⟩) ds.length ds.length ds ds W h1.sl h2.sl (by omega) (by omega)
  rw [At.sa_iff.2 ⟨rfl, fun _ => rfl⟩] at this
  exact this

/-- What is known behind Puts. -/
def lp (N : Int) (l : List Kn) : List Kn := l.foldl (fun L k => pt N L k) []
theorem lp_snoc (N : Int) (l : List Kn) (k : Kn) : lp N (l ++ [k]) = pt N (lp N l) k := by simp [lp]
theorem pt_mem {N : Int} {L : List Kn} {k x : Kn} (h : x ∈ pt N L k) : x ∈ L ∨ x = k := by
  unfold pt at h
  split at h
  · rcases List.mem_append.1 h with h | h
    · exact .inl (List.mem_filter.1 h).1
    · simp at h; exact .inr h
  · exact .inl h
theorem pt_len (N : Int) (L : List Kn) (k : Kn) : (pt N L k).length ≤ L.length + 1 := by
  unfold pt
  split
  · rw [List.length_append]
    have := List.length_filter_le (fun x => decide (x.i ≠ k.i)) L
    simp only [List.length_cons, List.length_nil]
    omega
  · omega

theorem long (A : Option Addr) (cp : Nat) (l : List Kn) (cu cs ck ch cn : Int) (ct : ByteArray) (j1 j2 : Int) (n : Int) (w : World) (hN : Nd w) (hl : (60 : Int) < (l.length : Int)) : Calls Tryd.prog 4 #[.slice A l.length cp, (cv cu cs ck ch cn ct), (.agg #[.int .i64 j1, .int .i64 j2]), .int .i64 n] w (UpPost w) := by
  have H13 : ∀ W, Hid (Calls Tryd.prog 13 #[.int .i64 n] W fun e w' => e = .returned (.pointer (some ⟨W.heap.size, 0, none⟩)) ∧ w' = W.alloc (.cells #[.int .i64 n, .map none, .map none] 55)) := fun W => new_any n W
  have B0 : Below w.heap.size w ((w.alloc (.cells #[.int .i64 cu, .int .i64 cs, .int .i64 ck, .int .i64 ch, .int .i64 cn, .string ct] 24)).alloc (.cells #[.int .i64 j1, .int .i64 j2] 26)) := (((Below.refl _ _).alloc (Nat.le_refl _) _).alloc (by first | (simp; done) | (simp; omega)) _)
  have Z0 : ((w.alloc (.cells #[.int .i64 cu, .int .i64 cs, .int .i64 ck, .int .i64 ch, .int .i64 cn, .string ct] 24)).alloc (.cells #[.int .i64 j1, .int .i64 j2] 26)).heap.size = w.heap.size + 1 + 1 := by simp
  have Dc0 : Cb ((w.alloc (.cells #[.int .i64 cu, .int .i64 cs, .int .i64 ck, .int .i64 ch, .int .i64 cn, .string ct] 24)).alloc (.cells #[.int .i64 j1, .int .i64 j2] 26)) (w.heap.size) cu cs ck ch cn ct := by
    have h1 := cb_new w cu cs ck ch cn ct
    exact (h1.on ((Below.refl _ _).alloc (Nat.le_refl _) _) (by first | (simp; done) | (simp; omega)))
  have Dj0 : At.Ib ((w.alloc (.cells #[.int .i64 cu, .int .i64 cs, .int .i64 ck, .int .i64 ch, .int .i64 cn, .string ct] 24)).alloc (.cells #[.int .i64 j1, .int .i64 j2] 26)) (w.heap.size + 1) j1 j2 := by
    have h1 := At.ib_new (w.alloc (.cells #[.int .i64 cu, .int .i64 cs, .int .i64 ck, .int .i64 ch, .int .i64 cn, .string ct] 24)) j1 j2
    rw [show (w.alloc (.cells #[.int .i64 cu, .int .i64 cs, .int .i64 ck, .int .i64 ch, .int .i64 cn, .string ct] 24)).heap.size = w.heap.size + 1 by simp] at h1
    exact h1
  have N0 := hN.on B0
  go_enter Tryd.func4, Tryd.ntmps4
  go_wp2_with fail
  generalize ((w.alloc (.cells #[.int .i64 cu, .int .i64 cs, .int .i64 ck, .int .i64 ch, .int .i64 cn, .string ct] 24)).alloc (.cells #[.int .i64 j1, .int .i64 j2] 26)) = W0 at *
  refine (awake_any W0 N0).mono ?_
  rintro e W1 ⟨rfl, B1⟩
  have z1 := B1.size
  have N1 := N0.on B1
  have Dc1 := Dc0.on B1 (by omega)
  have Dj1 := Dj0.on B1 (by omega)
  have BE := B0.trans (B1.mono (by omega))
  clear Dc0 Dj0
  clear B1 B0 N0
  go_wp2_with fail
  refine (H13 _).out.mono ?_
  rintro e W2 ⟨rfl, rfl⟩
  have BN : Below W1.heap.size W1 (W1.alloc (.cells #[.int .i64 n, .map none, .map none] 55)) := (Below.refl _ _).alloc (Nat.le_refl _) _
  have BE2 := BE.trans (BN.mono BE.size)
  go_wp2
  go_ret
  exact ⟨rfl, BE2⟩

set_option maxHeartbeats 4000000 in
theorem rest (N : Nat) (A : Option Addr) (cp : Nat) (l : List Kn) (cu cs ck ch cn : Int) (ct : ByteArray) (j1 j2 : Int) (n : Int) (w : World) (hN : Nd w) (hl : ¬ (60 : Int) < (l.length : Int)) (hn : am n = (N : Int)) (h7 : N ≤ 7) (hs : Ns w w.heap.size A l) (hlow : ∀ k ∈ l, -9223372036854775808 ≤ k.q) : Calls Tryd.prog 4 #[.slice A l.length cp, (cv cu cs ck ch cn ct), (.agg #[.int .i64 j1, .int .i64 j2]), .int .i64 n] w (UpPost w) := by
  have H13 : ∀ W, Hid (Calls Tryd.prog 13 #[.int .i64 n] W fun e w' => e = .returned (.pointer (some ⟨W.heap.size, 0, none⟩)) ∧ w' = W.alloc (.cells #[.int .i64 n, .map none, .map none] 55)) := fun W => new_any n W
  have B0 : Below w.heap.size w ((w.alloc (.cells #[.int .i64 cu, .int .i64 cs, .int .i64 ck, .int .i64 ch, .int .i64 cn, .string ct] 24)).alloc (.cells #[.int .i64 j1, .int .i64 j2] 26)) := (((Below.refl _ _).alloc (Nat.le_refl _) _).alloc (by first | (simp; done) | (simp; omega)) _)
  have Z0 : ((w.alloc (.cells #[.int .i64 cu, .int .i64 cs, .int .i64 ck, .int .i64 ch, .int .i64 cn, .string ct] 24)).alloc (.cells #[.int .i64 j1, .int .i64 j2] 26)).heap.size = w.heap.size + 1 + 1 := by simp
  have Dc0 : Cb ((w.alloc (.cells #[.int .i64 cu, .int .i64 cs, .int .i64 ck, .int .i64 ch, .int .i64 cn, .string ct] 24)).alloc (.cells #[.int .i64 j1, .int .i64 j2] 26)) (w.heap.size) cu cs ck ch cn ct := by
    have h1 := cb_new w cu cs ck ch cn ct
    exact (h1.on ((Below.refl _ _).alloc (Nat.le_refl _) _) (by first | (simp; done) | (simp; omega)))
  have Dj0 : At.Ib ((w.alloc (.cells #[.int .i64 cu, .int .i64 cs, .int .i64 ck, .int .i64 ch, .int .i64 cn, .string ct] 24)).alloc (.cells #[.int .i64 j1, .int .i64 j2] 26)) (w.heap.size + 1) j1 j2 := by
    have h1 := At.ib_new (w.alloc (.cells #[.int .i64 cu, .int .i64 cs, .int .i64 ck, .int .i64 ch, .int .i64 cn, .string ct] 24)) j1 j2
    rw [show (w.alloc (.cells #[.int .i64 cu, .int .i64 cs, .int .i64 ck, .int .i64 ch, .int .i64 cn, .string ct] 24)).heap.size = w.heap.size + 1 by simp] at h1
    exact h1
  have N0 := hN.on B0
  go_enter Tryd.func4, Tryd.ntmps4
  go_wp2_with fail
  generalize ((w.alloc (.cells #[.int .i64 cu, .int .i64 cs, .int .i64 ck, .int .i64 ch, .int .i64 cn, .string ct] 24)).alloc (.cells #[.int .i64 j1, .int .i64 j2] 26)) = W0 at *
  refine (awake_any W0 N0).mono ?_
  rintro e W1 ⟨rfl, B1⟩
  have z1 := B1.size
  have N1 := N0.on B1
  have Dc1 := Dc0.on B1 (by omega)
  have Dj1 := Dj0.on B1 (by omega)
  have BE := B0.trans (B1.mono (by omega))
  clear Dc0 Dj0
  clear B1 B0 N0
  go_wp2_with fail
  refine (H13 _).out.mono ?_
  rintro e W2 ⟨rfl, rfl⟩
  have BN : Below W1.heap.size W1 (W1.alloc (.cells #[.int .i64 n, .map none, .map none] 55)) := (Below.refl _ _).alloc (Nat.le_refl _) _
  have BE2 := BE.trans (BN.mono BE.size)
  have X2 := ix_new W1 n
  have N2 := N1.on BN
  have Dc2 := Dc1.on BN (by omega)
  have Dj2 := Dj1.on BN (by omega)
  have ZX : W1.heap.size < (W1.alloc (.cells #[.int .i64 n, .map none, .map none] 55)).heap.size := by simp
  have HS := Lib.hid ((hs.up BE).below BN (Nat.le_refl _))
  have HLW := Lib.hid hlow
  have hl' : l.length ≤ 60 := by omega
  have hw0 : 1 ≤ w.heap.size := hN.pos
  clear hs hlow H13 Dc1 Dj1 N1 BN BE hN
  go_wp2_with fail
  generalize (W1.alloc (.cells #[.int .i64 n, .map none, .map none] 55)) = W2 at *
  generalize W1.heap.size = X at *
  go_loopw [11, 12] (fun va tt wr => ∃ (p : Nat) (A' : Option Addr) (c' : Nat) (O : Nat → Prop), p ≤ l.length ∧ va = .slice A' (lp (am n) (l.take p)).length c' ∧ tt = .int .i64 (p : Int) ∧ Ix wr X n (lp (am n) (l.take p)) O ∧ Ns wr wr.heap.size A' (lp (am n) (l.take p)) ∧ (∀ b o, A' = some ⟨b, o, none⟩ → ¬ O b ∧ b < wr.heap.size) ∧ (∀ r, O r → X ≤ r) ∧ Below X W2 wr ∧ (lp (am n) (l.take p)).length ≤ p ∧ (∀ k ∈ lp (am n) (l.take p), k.q ≤ 1099511627776)) (fun _ tt _ => 61 - (intOf tt).toNat)
  case atStart => exact ⟨0, none, 0, _, Nat.zero_le _, rfl, rfl, X2, Ns.nil, (fun b o e => by cases e), (fun r h => by omega), Below.refl _ _, (by simp [lp]), (fun k hk => by simp [lp] at hk)⟩
  case round =>
    obtain ⟨p, A', c', O, hp, rfl, rfl, hX, hNs, hAO, hOX, hB, hlen, hq⟩ := hrel
    have BX := BE2.trans (hB.mono (by omega))
    by_cases hlp : p < l.length
    · have hlpi : (p : Int) < (l.length : Int) := by omega
      have hp0 : (0 : Int) ≤ (p : Int) := by omega
      have HSR := HS.out.below hB (Nat.le_refl _)
      rcases HSR with rfl | ⟨b, off, rfl, hb, hc⟩
      · simp at hlp
      have hcell := hc p l[p] (List.getElem?_eq_getElem hlp)
      have hlw := HLW.out l[p] (List.getElem_mem hlp)
      have HLS : Hid (lp (am n) (l.take (p + 1)) = pt (am n) (lp (am n) (l.take p)) l[p]) := by show _ = _; rw [List.take_succ_eq_append_getElem hlp, lp_snoc]
      have HX := Lib.hid hX
      have HNs := Lib.hid hNs
      have HAO := Lib.hid hAO
      have HOX := Lib.hid hOX
      have HQ := Lib.hid hq
      have hb' : b < wr.heap.size := by have := hB.size; omega
      clear hc hX hNs hAO hOX hq X2
      generalize l[p] = y at *
      generalize lp (am n) (l.take p) = L at *
      have HP : ∀ W O, Nd W → Ix W X n L O → (∀ r, O r → 1 ≤ r) → Hid (Calls Tryd.prog 14 #[.pointer (some ⟨X, 0, none⟩), .agg #[.int .i64 y.i.1, .int .i64 y.i.2, .int .i64 y.c.u, .int .i64 y.c.s, .int .i64 y.c.k, .int .i64 y.c.h, .int .i64 y.c.n, .string y.c.t, .int .i64 y.q]] W (PtPost W X n (pt (am n) L y) O)) := fun W O h1 h2 h3 => put_any X n L O y W h1 h2 h3 hlw
      have HR : ∀ W A c, Ns W W.heap.size A L → Hid (Calls Tryd.prog 15 #[.slice A L.length c, .agg #[.int .i64 y.i.1, .int .i64 y.i.2, .int .i64 y.c.u, .int .i64 y.c.s, .int .i64 y.c.k, .int .i64 y.c.h, .int .i64 y.c.n, .string y.c.t, .int .i64 y.q], .int .i64 n] W (RpPost W A (pt (am n) L y))) := fun W A c h => rput_any n L A c y W (by omega) h
      have HPL := pt_len (am n) L y
      have HPM := Lib.hid (fun x (h : x ∈ pt (am n) L y) => pt_mem h)
      generalize pt (am n) L y = L' at *
      obtain ⟨⟨y1, y2⟩, ⟨yu, ys, yk, yh, yn, yt⟩, yq⟩ := y
      obtain ⟨e0, e1, e2, e3, e4, e5, e6, e7, e8⟩ := id hcell
      by_cases hq : 1099511627776 < yq
      · go_wp2
        go_ret
        exact ⟨rfl, BX⟩
      · have Ndr := N2.below hB (by omega)
        go_wp2_with fail
        clear e0 e1 e2 e3 e4 e5 e6 e7 e8
        refine (HP _ _ Ndr HX.out (fun r h => by have := HOX.out r h; omega)).out.mono ?_
        rintro e Wa ⟨rfl, O', Xa, oa, hsa⟩
        have Ba : Below X wr Wa := oa.below HOX.out (by have := hB.size; omega)
        have za := oa.size
        have NsA := (HNs.out.off oa (Nat.le_refl _) (fun b o e => (HAO.out b o e).1)).mono za
        have NLa := Lib.hid ((HS.out.below hB (Nat.le_refl _)).below Ba (Nat.le_refl _))
        have hce : Nr Wa b (off + p * 9) ⟨(y1, y2), ⟨yu, ys, yk, yh, yn, yt⟩, yq⟩ := hcell.of (Ba.block b hb)
        have hOXa : ∀ r, O' r → X ≤ r := fun r h => (hsa r h).elim (HOX.out r) (fun h => by have := hB.size; omega)
        have hOlt := Xa.lt
        have BX2 := hB.trans Ba
        have HOa := Lib.hid hOXa
        have HOl := Lib.hid hOlt
        have hAa : ∀ b o, A' = some ⟨b, o, none⟩ → ¬ O' b ∧ b < Wa.heap.size := fun b o e => ⟨fun h => (hsa b h).elim (HAO.out b o e).1 (fun h => by have := (HAO.out b o e).2; omega), by have := (HAO.out b o e).2; omega⟩
        have HAa := Lib.hid hAa
        clear hAa
        have HSA := Lib.hid hsa
        have hb2 : b < Wa.heap.size := by omega
        clear hOXa hOlt hsa oa Ba hcell
        obtain ⟨e0, e1, e2, e3, e4, e5, e6, e7, e8⟩ := id hce
        go_wp2_with fail
        clear e0 e1 e2 e3 e4 e5 e6 e7 e8
        refine (HR _ _ _ NsA).out.mono ?_
        rintro e Wb ⟨A2, c2, rfl, NsB, hA2, Bb⟩
        have zb := Bb.size
        have Xb' := Xa.on Bb
        have BX3 := BX2.trans (Bb.mono (by have := hB.size; omega))
        have Dcb := Dc2.on BX3 (by omega)
        have Djb := Dj2.on BX3 (by omega)
        have Ndb := N2.below BX3 (by omega)
        have hA3 : ∀ b o, A2 = some ⟨b, o, none⟩ → ¬ O' b ∧ b < Wb.heap.size := fun b o e => by
          rcases hA2 with h | h
          · rw [h] at e
            exact ⟨(HAa.out b o e).1, by have := (HAa.out b o e).2; omega⟩
          · exact ⟨fun h1 => by have := HOl.out b h1; have := (h b o e).1; omega, (h b o e).2⟩
        have HA3 := Lib.hid hA3
        have hqL : ∀ k ∈ L', k.q ≤ 1099511627776 := fun k hk => (HPM.out k hk).elim (HQ.out k) (fun h => by rw [h]; show yq ≤ _; omega)
        have HQL := Lib.hid hqL
        have HAt : Hid (Calls Tryd.prog 16 #[.pointer (some ⟨X, 0, none⟩), (cv cu cs ck ch cn ct), (.agg #[.int .i64 j1, .int .i64 j2])] Wb (AtP Wb (Pq (N : Int) L' ⟨cu, cs, ck, ch, cn, ct⟩ (j1, j2)) N)) := by have := attr_any X N n L' O' ⟨cu, cs, ck, ch, cn, ct⟩ (j1, j2) Wb Ndb Xb' hn h7; rw [hn] at this; exact this
        have H11 : ∀ W A c, Ns W W.heap.size A L' → Hid (Calls Tryd.prog 11 #[.slice A L'.length c, (cv cu cs ck ch cn ct), (.agg #[.int .i64 j1, .int .i64 j2]), .int .i64 n] W (AtP W (Pq (N : Int) L' ⟨cu, cs, ck, ch, cn, ct⟩ (j1, j2)) N)) := fun W A c h2 => by have := of_ref N n cu cs ck ch cn j1 j2 ct A c L' W hn h7 (by omega) h2 HQL.out; rw [hn] at this; exact this
        have HLn : ∀ W, Ix W X n L' O' → Hid (Calls Tryd.prog 17 #[.pointer (some ⟨X, 0, none⟩)] W fun e w' => e = .returned (.int .i64 (L'.length : Int)) ∧ w' = W) := fun W h => len_any X n L' O' W h
        obtain ⟨gc0, gc1, gc2, gc3, gc4, gc5⟩ := id Dcb
        obtain ⟨gj0, gj1⟩ := id Djb
        clear hqL hA3 hA2 HP HR HX HNs NsA Xa HAa HSA HPM NLa
        go_wp2_with fail
        clear gc0 gc1 gc2 gc3 gc4 gc5 gj0 gj1
        refine HAt.out.mono ?_
        rintro e Wc ⟨sa, da, ga, rfl, Ra, hga, Bc, Ia⟩
        have zc := Bc.size
        have BA : Below Wc.heap.size Wc (Wc.alloc (.cells #[.int .i64 sa, .slice (some ⟨ga, 0, none⟩) N N] 32)) := (Below.refl _ _).alloc (Nat.le_refl _) _
        have PA := At.ax_new Wc sa (some ⟨ga, 0, none⟩) N N
        have NsD := (NsB.up Bc).up BA
        have Xd := (Xb'.on Bc).on BA
        have Rad := Ra.old (.cells #[.int .i64 sa, .slice (some ⟨ga, 0, none⟩) N N] 32)
        have hgl := Ra.lt
        have ZD : (Wc.alloc (.cells #[.int .i64 sa, .slice (some ⟨ga, 0, none⟩) N N] 32)).heap.size = Wc.heap.size + 1 := by simp
        have hXb : X ≤ Wb.heap.size := by have := HOl.out X Xb'.own; omega
        have BXd := BX3.trans ((Bc.trans (BA.mono zc)).mono hXb)
        have Dcc := Dcb.on Bc (by omega)
        have Djc := Djb.on Bc (by omega)
        have y2a : w.heap.size < Wc.heap.size := by omega
        have y2b : w.heap.size + 1 < Wc.heap.size := by omega
        obtain ⟨gc0, gc1, gc2, gc3, gc4, gc5⟩ := id Dcc
        obtain ⟨gj0, gj1⟩ := id Djc
        go_wp2_with fail
        clear gc0 gc1 gc2 gc3 gc4 gc5 gj0 gj1 Ra Bc BA HAt Dcc Djc Dcb Djb NsB Xb'
        generalize (Wc.alloc (.cells #[.int .i64 sa, .slice (some ⟨ga, 0, none⟩) N N] 32)) = Wd at *
        generalize Wc.heap.size = pa at *
        have zpa : pa < Wd.heap.size := by omega
        clear ZD
        refine (H11 _ _ _ NsD).out.mono ?_
        rintro e We ⟨sb, db, gb, rfl, Rb, hgb, Be, Ib⟩
        obtain ⟨rfl, rfl⟩ := Ia.uniq Ib (fun _ _ => Iff.rfl)
        have ze := Be.size
        have BB : Below We.heap.size We (We.alloc (.cells #[.int .i64 sa, .slice (some ⟨gb, 0, none⟩) N N] 32)) := (Below.refl _ _).alloc (Nat.le_refl _) _
        have PB := At.ax_new We sa (some ⟨gb, 0, none⟩) N N
        have PAe := (PA.on Be zpa)
        have PAf := PAe.on BB (by omega)
        have Raf : At.Rx (We.alloc (.cells #[.int .i64 sa, .slice (some ⟨gb, 0, none⟩) N N] 32)) ga da := (BB.block ga (by omega)).trans ((Be.block ga (by omega)).trans Rad)
        have Rbf := Rb.old (.cells #[.int .i64 sa, .slice (some ⟨gb, 0, none⟩) N N] 32)
        have NsF := (NsD.up Be).up BB
        have Xf := (Xd.on Be).on BB
        have BXf := BXd.trans ((Be.trans (BB.mono ze)).mono (by omega))
        have HSM := Lib.hid (rsame_yes N h7 _ ga gb sa da Ia.len Raf Rbf)
        have ypa : pa < We.heap.size := by omega
        obtain ⟨a0, a1⟩ := PAe.rb
        clear Ia Ib Rb BB Be Rad PA NsD Xd BXd H11 PAe
        go_wp2_with fail
        clear a0 a1
        generalize (We.alloc (.cells #[.int .i64 sa, .slice (some ⟨gb, 0, none⟩) N N] 32)) = Wf at *
        generalize We.heap.size = pb at *
        refine HSM.out.mono ?_
        rintro e Wg ⟨rfl, Bg⟩
        obtain ⟨a0, a1⟩ := (PAf.on Bg PAf.lt).rb
        obtain ⟨b0, b1⟩ := (PB.on Bg PB.lt).rb
        have NsG := Lib.hid (NsF.up Bg)
        have Xg := Xf.on Bg
        have BXg := BXf.trans (Bg.mono (by have := Xf.lt X Xf.own; omega))
        have zg := Bg.size
        have zpb := PB.lt
        have HXg := Lib.hid Xg
        have hfin : Hid (∀ b o, A2 = some ⟨b, o, none⟩ → ¬ O' b ∧ b < Wg.heap.size) := fun b o e => ⟨(HA3.out b o e).1, by have := (HA3.out b o e).2; omega⟩
        clear Xf NsF BXf HSM Raf Rbf PAf PB Xg
        go_wp2_with fail
        refine (HLn _ HXg.out).out.mono ?_
        rintro e Wh ⟨rfl, rfl⟩
        go_wp2
        go_roundw
        case rel => exact ⟨p + 1, A2, c2, O', by omega, by rw [HLS.out], by go_num, by rw [HLS.out]; exact HXg.out, by rw [HLS.out]; exact NsG.out, hfin.out, HOa.out, BXg, by rw [HLS.out]; omega, by rw [HLS.out]; exact HQL.out⟩
        case measure => simp [intOf]; omega
    · go_wp2
      go_ret
      exact ⟨rfl, BX⟩

theorem walk (A : Option Addr) (cp : Nat) (l : List Kn) (c : Cd) (j : Int × Int) (n : Int) (w : World) (hN : Nd w) (hs : Ns w w.heap.size A l) (hlow : ∀ k ∈ l, -9223372036854775808 ≤ k.q) (hw : (Lit.int .i64 n).wf = true) : Calls Tryd.prog 4 #[.slice A l.length cp, cv c.u c.s c.k c.h c.n c.t, iv j, .int .i64 n] w (UpPost w) := by
  obtain ⟨N, hn, _, h7⟩ := am_nat n
  by_cases hl : (60 : Int) < (l.length : Int)
  · exact long A cp l _ _ _ _ _ _ _ _ n w hN hl
  · exact rest N A cp l _ _ _ _ _ _ _ _ n w hN hl hn h7 hs hlow

set_option maxRecDepth 100000 in
theorem lifted (os : Os) (started : os.Started) (H : Type) (enc : TypeId × Value → H) :
    ReturnsInHanded {} Tryd.checked os 4 .any (fun w args => (Rows.indexRunsSpec.pre enc Tryd.prog Tryd.f4 [] false w args ∧ laidMetH Tryd.prog laid4 w) ∧ sizedMet enc Tryd.prog Tryd.f4 (OpenSpec.ofChange Rows.indexRunsSpec) false w args)
      (Rows.indexRunsSpec.post enc Tryd.prog Tryd.f4 false true false false) := by
  refine returnsInHanded_of_change_and (C := Tryd.checked) (X := fun w _ => laidMetH Tryd.prog laid4 w) (fun _ _ _ hh h => h.of_heap hh) own started (by kernel_rfl) Tryd.func4
    (ChangeSpec.witness_shaped (enc := enc) (C := Tryd.checked) (os := os) (X := fun w _ => laidMetH Tryd.prog laid4 w) false (World.doorLaid Tryd.prog 18 os) #[.slice none 0 0, .agg #[.int .i64 0, .int .i64 0, .int .i64 0, .int .i64 0, .int .i64 0, .string ⟨#[]⟩], .agg #[.int .i64 0, .int .i64 0], .int .i64 0] 8 rfl (World.shaped_of_RefB (by kernel_rfl) (by kernel_rfl)) (by kernel_rfl) (by kernel_rfl) (by kernel_rfl) (door_met os _)) ?_
  intro W base args ds gs before hval0 hW _ _ hL _
  have hN := nd_of_laid hL
  have hval : ∀ (j : Nat) t v, Tryd.f4.params[j]? = some t → args[j]? = some v → Value.okWide Tryd.prog W .any base t v := hval0
  have hW' := hW
  obtain ⟨p, q, hA0, hV, rfl, hfz, hnd⟩ := hW
  have hA : DataW.TrodAll enc Tryd.prog W 0 (fun _ => true) true Tryd.f4.params.toList args.toList ds p := hA0
  rw [Tryd.params4] at hA hval
  obtain ⟨v0, vs0, d0, ds0, p0, q0, hargs, rfl, rfl, h0, r0⟩ := trodAll_cons hA
  obtain ⟨v1, vs1, d1, ds1, p1, q1, rfl, rfl, rfl, h1, r1⟩ := trodAll_cons r0
  obtain ⟨v2, vs2, d2, ds2, p2, q2, rfl, rfl, rfl, h2, r2⟩ := trodAll_cons r1
  obtain ⟨v3, vs3, d3, ds3, p3, q3, rfl, rfl, rfl, h3, r3⟩ := trodAll_cons r2
  obtain ⟨rfl, rfl, rfl⟩ := trodAll_nil r3
  obtain rfl : args = #[v0, v1, v2, v3] := by cases args; simp_all
  obtain ⟨rfl, rfl⟩ := trodVars_none hV
  have k0' := h0
  have lt0 : ∀ x ∈ p0, x.block < W.heap.size := by obtain ⟨m, hm⟩ := k0'; exact DataW.trod_lt m _ _ _ hm
  obtain ⟨A0, c0, l0, rfl, s0', m0, y0⟩ := open_kns (hval 0 22 v0 rfl rfl) h0
  have k1' := h1
  have lt1 : ∀ x ∈ p1, x.block < W.heap.size := by obtain ⟨m, hm⟩ := k1'; exact DataW.trod_lt m _ _ _ hm
  obtain ⟨x1, rfl⟩ := open_cmd (hval 1 24 v1 rfl rfl) h1
  have k2' := h2
  have lt2 : ∀ x ∈ p2, x.block < W.heap.size := by obtain ⟨m, hm⟩ := k2'; exact DataW.trod_lt m _ _ _ hm
  obtain ⟨x2, rfl⟩ := open_inst (hval 2 26 v2 rfl rfl) h2
  obtain ⟨a3, rfl, rfl, rfl, w3⟩ := open_int Tryd.underlying3 (hval 3 3 v3 rfl rfl) h3
  clear hA0 hval0
  refine (walk A0 c0 l0 x1 x2 a3 W hN s0' y0   w3).mono fun e W' ⟨he, bel⟩ => ?_
  subst he
  exact ⟨_, rfl, _, _, _, [], _, [], hW', trodAll_mk1 (shut_bool Tryd.underlying4 _), (trodAll_cons_mk (Below.trod laidOut (by kernel_rfl) (of_decide_eq_true (by kernel_rfl)) k0' bel lt0) (trodAll_cons_mk (Below.trod laidOut (by kernel_rfl) (of_decide_eq_true (by kernel_rfl)) k1' bel lt1) (trodAll_cons_mk (Below.trod laidOut (by kernel_rfl) (of_decide_eq_true (by kernel_rfl)) k2' bel lt2) (trodAll_cons_mk (shut_int Tryd.underlying3 w3) trodAll_mk0)))), rfl, bel.frame _, fun h => by cases h⟩

theorem over : Rows.IndexRunsSaid :=
  OpenClaim.holds_of_wide 4 Tryd.f4 rfl rfl rfl rfl rfl rfl rfl ⟨rfl, rfl, rfl, rfl, rfl⟩ rfl rfl rfl rfl rfl (by kernel_rfl) Tryd.func4 (by kernel_rfl)
    (of_decide_eq_true (by kernel_rfl)) (by unfold Func.isWrapper; first | (rw [if_pos (by decide +kernel)]; kernel_rfl) | (rw [if_neg (by decide +kernel)]; exact ⟨rfl, rfl⟩))
    (fun os started H enc _ => lifted os started H enc)

theorem proved : Rows.IndexRunsCardSaid :=
  Claim7.holds_tied_plain_at .later [] [.data] true (true, "ff0bb4375bea55efa16266bd5e425099be6e5092c0e69cdcc6c311bd18fe096f") false
    over (fun _ h => by cases h) (by kernel_rfl) (fun _ h => by cases h) indexRuns_row_tie rfl ⟨rfl, rfl⟩ (by kernel_rfl) rfl
    (fun f fn hf hfn => by
      obtain rfl : f = 4 := Option.some.inj ((show Tryd.prog.funcNamed "colloquy/colloquylaw08.IndexRuns" = some 4 by kernel_rfl).symm.trans hf) |>.symm
      obtain rfl : fn = Tryd.f4 := (Option.some.inj (Tryd.func4.symm.trans hfn)).symm
      exact ⟨by kernel_rfl, fun j t ht => by
        rw [Tryd.params4] at ht
        have hm : t ∈ [22, 24, 26, 3] := by simpa using Array.mem_of_getElem? ht
        have hall : ([22, 24, 26, 3].all fun u => !Tryd.prog.wantsStandIn u) = true := by kernel_rfl
        exact (show Tryd.prog.wantsStandIn t = false by simpa using List.all_eq_true.1 hall t hm)⟩)
    (by kernel_rfl)
#print axioms proved
end Go.Proofs.YtmeklhlojogdnaaDoor.indexRuns
