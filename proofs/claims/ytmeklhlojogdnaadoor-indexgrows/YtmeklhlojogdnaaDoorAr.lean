/-
  The walk of index's Attr: what a command waits for is just as great as what of the known interferes with it asks for, in whatever order the maps are gone over. Conditions: the table of what kinds need reads as its initialiser lays it; the index is one that was made.
-/
import Derived.Test.YtmeklhlojogdnaaDoorEqi
import Derived.Test.YtmeklhlojogdnaaDoorFg
namespace Go.Proofs.YtmeklhlojogdnaaDoor
open Go.RowKit
set_option linter.unusedVariables false
attribute [local go_sem ↓ high] eq26 guard26 neq26 guard26n

theorem run_res16 {V : World} {tm : Array Value} {B : Nat} {a : Int} {A : Option Addr} {n c : Nat} (h2 : tm[6]?.getD undef = .pointer (some ⟨B, 0, none⟩)) (hb : At.Rb V B a A n c) :
    (results Tryd.f16 tm).run Tryd.prog V = .ok (.agg #[.int .i64 a, .slice A n c]) V := by
  obtain ⟨c0, c1⟩ := hb
  simp [results, Tryd.results16, h2, go_sem, c0, c1]

/-- The call gave an attribute, in a row of its own, that is just as great as those of which P holds ask. -/
def AtP (w : World) (P : Int × Int → Int → Prop) (N : Nat) (e : Ending) (w' : World) : Prop := ∃ s ds g, e = .returned (.agg #[.int .i64 s, .slice (some ⟨g, 0, none⟩) N N]) ∧ At.Rx w' g ds ∧ w.heap.size ≤ g ∧ Below w.heap.size w w' ∧ IsAt P N s ds

/-- What the keys that are no longer to come ask for. -/
def Pd (left : Ky → Prop) (lk : List Ky) (g : Ky → Int × Int → Option Int) (self : Int × Int) (i : Int × Int) (q : Int) : Prop := ∃ a, ¬ left a ∧ mts lk a = true ∧ g a i = some q ∧ i ≠ self
theorem pd_step {left : Ky → Prop} {lk : List Ky} {g : Ky → Int × Int → Option Int} {self : Int × Int} {a : Ky} (ha : left a) (i : Int × Int) (q : Int) :
    Pd (fun x => left x ∧ x ≠ a) lk g self i q ↔ Pd left lk g self i q ∨ (mts lk a = true ∧ g a i = some q ∧ i ≠ self) := by
  constructor
  · rintro ⟨x, h1, h2, h3, h4⟩
    by_cases hx : x = a
    · subst hx; exact .inr ⟨h2, h3, h4⟩
    · exact .inl ⟨x, fun h => h1 ⟨h, hx⟩, h2, h3, h4⟩
  · rintro (⟨x, h1, h2, h3, h4⟩ | ⟨h2, h3, h4⟩)
    · exact ⟨x, fun h => h1 h.1, h2, h3, h4⟩
    · exact ⟨a, fun h => h.2 rfl, h2, h3, h4⟩
theorem in_step {left2 : Int × Int → Prop} {P : Int × Int → Int → Prop} {f : Int × Int → Option Int} {self i : Int × Int} {q : Int} (hi : left2 i) (hf : f i = some q) (x : Int × Int) (p : Int) :
    (P x p ∨ (¬ (left2 x ∧ x ≠ i) ∧ f x = some p ∧ x ≠ self)) ↔ ((P x p ∨ (¬ left2 x ∧ f x = some p ∧ x ≠ self)) ∨ (i ≠ self ∧ x = i ∧ p = q)) := by
  constructor
  · rintro (h | ⟨h1, h2, h3⟩)
    · exact .inl (.inl h)
    · by_cases hx : x = i
      · subst hx
        rw [hf] at h2
        cases h2
        exact .inr ⟨h3, rfl, rfl⟩
      · exact .inl (.inr ⟨fun h => h1 ⟨h, hx⟩, h2, h3⟩)
  · rintro ((h | ⟨h1, h2, h3⟩) | ⟨h1, rfl, rfl⟩)
    · exact .inl h
    · exact .inr ⟨fun h => h1 h.1, h2, h3⟩
    · exact .inr ⟨fun h => h.2 rfl, hf, h1⟩

/-- What Attr's loops keep in memory. -/
structure Arm (w wr : World) (P gr N : Nat) (s : Int) (ds : List Int) (j1 j2 : Int) (A : Option Addr) (lk : List Ky) (r : Nat) : Prop where
  p : At.Ax wr P s (some ⟨gr, 0, none⟩) N N
  g : At.Rx wr gr ds
  i : At.Ib wr (w.heap.size + 1) j1 j2
  a : At.Ax wr (w.heap.size + 1 + 1) 0 none 0 0
  b : Below w.heap.size w wr
  k : Kr wr (fun x => P < x ∧ x < r) A lk
  l : r < wr.heap.size
theorem Arm.on {w wr w' : World} {P gr N : Nat} {s : Int} {ds : List Int} {j1 j2 : Int} {A : Option Addr} {lk : List Ky} {r : Nat} (h : Arm w wr P gr N s ds j1 j2 A lk r) (h1 : w.heap.size + 1 + 1 < gr) (h2 : gr < P) (h3 : P < r) (hb : Below r wr w') : Arm w w' P gr N s ds j1 j2 A lk r :=
  ⟨h.p.on hb h3, (hb.block gr (by omega)).trans h.g, h.i.on hb (by omega), h.a.on hb (by omega), h.b.trans (hb.mono (by omega)), h.k.keep (fun _ h => h) (fun x _ hx _ => hb.block x hx.2), Nat.lt_of_lt_of_le h.l hb.size⟩
theorem Arm.wait {w wr w' : World} {P gr N : Nat} {s s' : Int} {ds ds' : List Int} {j1 j2 : Int} {A : Option Addr} {lk : List Ky} {r : Nat} {e : Ending} (h : Arm w wr P gr N s ds j1 j2 A lk r) (h1 : w.heap.size + 1 + 1 < gr) (h2 : gr < P) (h3 : P < r) (hp : WtPost wr P gr N s' ds' e w') : Arm w w' P gr N s' ds' j1 j2 A lk r := by
  obtain ⟨_, p, g, o⟩ := hp
  have hz := h.l
  have hs := h.b.size
  refine ⟨p, g, Off.ib h.i o (by omega), (o.block _ (by omega) (by omega)).trans h.a, h.b.trans (o.below (fun r h => by omega) hs), h.k.keep (fun _ h => h) (fun x _ hx _ => o.block x (by omega) (by omega)), Nat.lt_of_lt_of_le h.l o.size⟩

set_option maxHeartbeats 4000000 in
theorem attr_made (X T N : Nat) (n u s kk h m j1 j2 : Int) (t : ByteArray) (kb : Option Nat) (w : World) (hN : Nd w) (hx : Xb w X n kb (some T)) (hn : am n = (N : Int)) (hN7 : N ≤ 7) (ft : Ky → Option Value) (ct : Nat) (hmo : Mo dK w.heap[T]? ft ct)
    (g : Ky → Int × Int → Option Int) (hin : ∀ a, (ft a = none ∧ ∀ i, g a i = none) ∨ ∃ b c, ft a = some (.map (some b)) ∧ Mo dI w.heap[b]? (fun i => (g a i).map (Value.int .i64)) c)
    (hg : ∀ a i q, g a i = some q → 1 ≤ i.1 ∧ i.1 ≤ (N : Int) ∧ 0 ≤ i.2 ∧ -9223372036854775808 ≤ q) :
    Calls Tryd.prog 16 #[.pointer (some ⟨X, 0, none⟩), cv u s kk h m t, .agg #[.int .i64 j1, .int .i64 j2]] w (AtP w (fun i q => ∃ a, mts (kl ⟨u, s, kk, h, m, t⟩) a = true ∧ g a i = some q ∧ i ≠ (j1, j2)) N) := by
  have hTl := mo_lt hmo
  have HA : ∀ W, Hid (Calls Tryd.prog 22 #[.int .i64 n] W fun e w' => e = .returned (.int .i64 (N : Int)) ∧ w' = W) := fun W => by have := among_any n W; rw [hn] at this; exact this
  have HNo : ∀ W, Hid (Calls Tryd.prog 23 #[.int .i64 (N : Int)] W fun e w' => ∃ g, e = .returned (.agg #[.int .i64 1, .slice (some ⟨g, 0, none⟩) N N]) ∧ At.Rx w' g (List.replicate N 0) ∧ W.heap.size ≤ g ∧ Below W.heap.size W w') := fun W => by have := nothing_any N (by omega) W; unfold AxPost at this; rw [List.length_replicate] at this; exact this
  have HO : ∀ W, Nd W → Hid (Calls Tryd.prog 31 #[cv u s kk h m t] W (KrPost W (kl ⟨u, s, kk, h, m, t⟩))) := fun W h' => of_own ⟨u, s, kk, h, m, t⟩ W h'
  have HLL := Lib.hid (kl_len ⟨u, s, kk, h, m, t⟩)
  generalize kl ⟨u, s, kk, h, m, t⟩ = lk at *
  have hXl := hx.lt
  have B0 : Below w.heap.size w (((w.alloc (.cells #[.int .i64 u, .int .i64 s, .int .i64 kk, .int .i64 h, .int .i64 m, .string t] 24)).alloc (.cells #[.int .i64 j1, .int .i64 j2] 26)).alloc (.cells #[.int .i64 0, .slice none 0 0] 32)) := (((Below.refl _ _).alloc (Nat.le_refl _) _).alloc (by simp) _).alloc (by simp; omega) _
  have Z0 : (((w.alloc (.cells #[.int .i64 u, .int .i64 s, .int .i64 kk, .int .i64 h, .int .i64 m, .string t] 24)).alloc (.cells #[.int .i64 j1, .int .i64 j2] 26)).alloc (.cells #[.int .i64 0, .slice none 0 0] 32)).heap.size = w.heap.size + 1 + 1 + 1 := by simp
  have C0 : Cb (((w.alloc (.cells #[.int .i64 u, .int .i64 s, .int .i64 kk, .int .i64 h, .int .i64 m, .string t] 24)).alloc (.cells #[.int .i64 j1, .int .i64 j2] 26)).alloc (.cells #[.int .i64 0, .slice none 0 0] 32)) w.heap.size u s kk h m t := ((cb_new w u s kk h m t).on ((Below.refl _ _).alloc (Nat.le_refl _) _) (by simp)).on ((Below.refl _ _).alloc (Nat.le_refl _) _) (by simp; omega)
  have I0 : At.Ib (((w.alloc (.cells #[.int .i64 u, .int .i64 s, .int .i64 kk, .int .i64 h, .int .i64 m, .string t] 24)).alloc (.cells #[.int .i64 j1, .int .i64 j2] 26)).alloc (.cells #[.int .i64 0, .slice none 0 0] 32)) (w.heap.size + 1) j1 j2 := by
    have h1 := At.ib_new (w.alloc (.cells #[.int .i64 u, .int .i64 s, .int .i64 kk, .int .i64 h, .int .i64 m, .string t] 24)) j1 j2
    rw [show (w.alloc (.cells #[.int .i64 u, .int .i64 s, .int .i64 kk, .int .i64 h, .int .i64 m, .string t] 24)).heap.size = w.heap.size + 1 by simp] at h1
    exact h1.on ((Below.refl _ _).alloc (Nat.le_refl _) _) (by simp)
  have A0 : At.Ax (((w.alloc (.cells #[.int .i64 u, .int .i64 s, .int .i64 kk, .int .i64 h, .int .i64 m, .string t] 24)).alloc (.cells #[.int .i64 j1, .int .i64 j2] 26)).alloc (.cells #[.int .i64 0, .slice none 0 0] 32)) (w.heap.size + 1 + 1) 0 none 0 0 := by
    have h1 := At.ax_new ((w.alloc (.cells #[.int .i64 u, .int .i64 s, .int .i64 kk, .int .i64 h, .int .i64 m, .string t] 24)).alloc (.cells #[.int .i64 j1, .int .i64 j2] 26)) 0 none 0 0
    rwa [show ((w.alloc (.cells #[.int .i64 u, .int .i64 s, .int .i64 kk, .int .i64 h, .int .i64 m, .string t] 24)).alloc (.cells #[.int .i64 j1, .int .i64 j2] 26)).heap.size = w.heap.size + 1 + 1 by simp] at h1
  have X0 := hx.on B0 hXl
  have N0 := hN.on B0
  have x0 := hx.c0
  have hX1 : X < w.heap.size + 1 := by omega
  have hX2 : X < w.heap.size + 1 + 1 := by omega
  go_enter Tryd.func16, Tryd.ntmps16
  go_wp2_with fail
  clear x0
  generalize (((w.alloc (.cells #[.int .i64 u, .int .i64 s, .int .i64 kk, .int .i64 h, .int .i64 m, .string t] 24)).alloc (.cells #[.int .i64 j1, .int .i64 j2] 26)).alloc (.cells #[.int .i64 0, .slice none 0 0] 32)) = W0 at *
  refine (HA _).out.mono ?_
  rintro e w1 ⟨rfl, rfl⟩
  go_wp2_with fail
  refine (HNo _).out.mono ?_
  rintro e W1 ⟨gr, rfl, R1, hg1, B1⟩
  have z1 := B1.size
  have hgl := R1.lt
  have C1 := C0.on B1 (by omega)
  have I1 := I0.on B1 (by omega)
  have A1 := A0.on B1 (by omega)
  have X1 := X0.on B1 (by omega)
  have N1 := N0.on B1
  have P2 := At.ax_new W1 1 (some ⟨gr, 0, none⟩) N N
  have BP : Below W1.heap.size W1 (W1.alloc (.cells #[.int .i64 1, .slice (some ⟨gr, 0, none⟩) N N] 32)) := (Below.refl _ _).alloc (Nat.le_refl _) _
  have ZP : (W1.alloc (.cells #[.int .i64 1, .slice (some ⟨gr, 0, none⟩) N N] 32)).heap.size = W1.heap.size + 1 := by simp
  have zc : w.heap.size < W1.heap.size := by omega
  obtain ⟨c0, c1, c2, c3, c4, c5⟩ := id C1
  go_wp2_with fail
  clear c0 c1 c2 c3 c4 c5
  have R2 := R1.old (.cells #[.int .i64 1, .slice (some ⟨gr, 0, none⟩) N N] 32)
  have I2 := I1.on BP (by omega)
  have A2 := A1.on BP (by omega)
  have X2 := X1.on BP (by omega)
  have N2 := N1.on BP
  have B02 := B0.trans ((B1.trans (BP.mono z1)).mono (by omega))
  generalize (W1.alloc (.cells #[.int .i64 1, .slice (some ⟨gr, 0, none⟩) N N] 32)) = W2 at *
  generalize W1.heap.size = P at *
  refine (HO _ N2).out.mono ?_
  rintro e W3 ⟨A, cc, rfl, kr, B3⟩
  have z3 := B3.size
  have R3 : At.Rx W3 gr (List.replicate N 0) := (B3.block gr (by omega)).trans R2
  have P3 := P2.on B3 (by omega)
  have I3 := I2.on B3 (by omega)
  have A3 := A2.on B3 (by omega)
  have X3 := X2.on B3 (by omega)
  have B03 := B02.trans (B3.mono (by omega))
  have KR3 : Kr W3 (fun x => P < x ∧ x < W3.heap.size) A lk := by
    rcases kr with h1 | ⟨r, h1, h2, h3⟩
    · exact .inl h1
    · exact .inr ⟨r, h1, ⟨by omega, lt_of_block h3⟩, h3⟩
  clear C0 I0 A0 X0 N0 C1 I1 A1 X1 N1 R1 P2 R2 I2 A2 X2 N2 BP B1 B3 B02 B0 kr HA HNo HO hN
  have HT3 : W3.heap[T]? = w.heap[T]? := B03.block T hTl
  obtain ⟨oi, HRG, cnt0, RG0⟩ := hmo.range (t := 53) (e := 61) Tryd.underlying53 T W3 HT3
  have x2 := X3.c2
  have hzz : w.heap.size + 1 + 1 < gr := by omega
  have hgp : gr < P := by omega
  have hpr : P < W3.heap.size := by omega
  go_wp2_with fail
  have BI : Below W3.heap.size W3 (W3.alloc oi) := (Below.refl _ _).alloc (Nat.le_refl _) _
  have B04 := B03.trans (BI.mono (by omega))
  have M4 : Arm w (W3.alloc oi) P gr N 1 (List.replicate N 0) j1 j2 A lk W3.heap.size := ⟨P3.old oi, R3.old oi, I3.on BI (by omega), A3.old oi, B04, KR3.keep (fun _ h => h) (fun x _ hx _ => BI.block x hx.2), by simp⟩
  have RG4 : Rg dK T (W3.alloc oi).heap[T]? (W3.alloc oi).heap[W3.heap.size]? ft (fun a => ∃ v, ft a = some v) cnt0 := by
    rw [B04.block T hTl, heap_alloc_new]
    exact RG0
  have IS4 : IsAt (Pd (fun a => ∃ v, ft a = some v) lk g (j1, j2)) N 1 (List.replicate N 0) := (is_none N).congr (fun i q => ⟨fun h => h.elim, fun ⟨a, h1, _, h3, _⟩ => h1 (by
    rcases hin a with ⟨_, h4⟩ | ⟨b, c, h4, _⟩
    · rw [h4 i] at h3; cases h3
    · exact ⟨_, h4⟩)⟩)
  clear R3 P3 A3 I3 X3 RG0 BI B03 KR3 x2 HRG HT3 B04
  generalize hW4 : W3.alloc oi = W4 at *
  generalize W3.heap.size = r at *
  clear hW4
  have HIN := Lib.hid hin
  have HG := Lib.hid hg
  have IS4' := Lib.hid IS4
  clear hin hg IS4
  go_loopw [30] (fun _ wr => ∃ (left : Ky → Prop) (cnt : Nat) (s : Int) (ds : List Int), Rg dK T wr.heap[T]? wr.heap[r]? ft left cnt ∧ IsAt (Pd left lk g (j1, j2)) N s ds ∧ Arm w wr P gr N s ds j1 j2 A lk r) (fun _ wr => wr.rangeLeft T r)
  case atStart => exact ⟨_, cnt0, 1, _, RG4, IS4'.out, M4⟩
  case round =>
    obtain ⟨left, cnt, sq, ds, hRG, hIS, hM⟩ := hrel
    have HIS := Lib.hid hIS
    have HRG := Lib.hid hRG
    clear hIS RG4 IS4' M4
    rcases hRG.next goodK 0 with ⟨hl, hrun⟩ | ⟨a, v, w1, cnt', hok, hla, hfa, hrun, hRG1, hcnt, hgr, hsz1, hen⟩
    · have HL := Lib.hid hl
      clear hl hRG
      obtain ⟨p0, p1⟩ := hM.p.rb
      obtain ⟨a0, a1⟩ := hM.a.rb
      have f0 := hM.a.free 0
      have f1 := hM.a.free 1
      go_wp2
      have X9 : At.Ax ((wr.setCell ⟨w.heap.size + 1 + 1, 0, none⟩ (.int .i64 sq)).setCell ⟨w.heap.size + 1 + 1, 1, none⟩ (.slice (some ⟨gr, 0, none⟩) N N)) (w.heap.size + 1 + 1) sq (some ⟨gr, 0, none⟩) N N := (hM.a.set0 sq).set1 _ _ _
      have R9 : At.Rx ((wr.setCell ⟨w.heap.size + 1 + 1, 0, none⟩ (.int .i64 sq)).setCell ⟨w.heap.size + 1 + 1, 1, none⟩ (.slice (some ⟨gr, 0, none⟩) N N)) gr ds := (hM.g.other (by show gr ≠ w.heap.size + 1 + 1; omega) _).other (by show gr ≠ w.heap.size + 1 + 1; omega) _
      have E9 : Below w.heap.size w ((wr.setCell ⟨w.heap.size + 1 + 1, 0, none⟩ (.int .i64 sq)).setCell ⟨w.heap.size + 1 + 1, 1, none⟩ (.slice (some ⟨gr, 0, none⟩) N N)) := (hM.b.setCell (by show w.heap.size ≤ w.heap.size + 1 + 1; omega) _).setCell (by show w.heap.size ≤ w.heap.size + 1 + 1; omega) _
      refine bodyPost_ret (run_res16 (B := w.heap.size + 1 + 1) rfl X9.rb) rfl ⟨sq, ds, gr, rfl, R9, by omega, E9, HIS.out.congr (fun i q => ⟨fun ⟨a, _, h2, h3, h4⟩ => ⟨a, h2, h3, h4⟩, fun ⟨a, h2, h3, h4⟩ => ⟨a, HL.out a, h2, h3, h4⟩⟩)⟩
    · obtain ⟨b, cb, hfb, hmb⟩ : ∃ b c, ft a = some (.map (some b)) ∧ Mo dI w.heap[b]? (fun i => (g a i).map (Value.int .i64)) c := by
        rcases HIN.out a with ⟨h4, _⟩ | h4
        · rw [h4] at hfa; cases hfa
        · exact h4
      rw [hfb] at hfa
      cases hfa
      have hbl := mo_lt hmb
      have hrl := hM.l
      have BR : Below r wr w1 := (Below.refl _ _).grown hgr (by omega) (fun k hk => by cases hk; omega)
      have M1 := hM.on hzz hgp hpr BR
      have HMT : ∀ W A c, Ks W W.heap.size A lk → Hid (Calls Tryd.prog 32 #[kv a.a a.i a.c, .slice A lk.length c] W (BoolPost W (mts lk a))) := fun W A c h' => meets_any a A c lk W HLL.out h'
      have HPD := Lib.hid (fun (i : Int × Int) (q : Int) => (pd_step (lk := lk) (g := g) (self := (j1, j2)) hla i q))
      generalize hmt : mts lk a = mtb at *
      have HMT' := Lib.hid hmt
      obtain ⟨ya, yi, yc⟩ := a
      have hrun' : (Instr.next (.pointer (some ⟨r, 0, none⟩)) false 0).run Tryd.prog wr = .ok (.tuple #[.bool true, .agg #[.bool ya, .int .i64 yi, .bool yc], .map (some b)]) w1 := hrun
      have hen' : (Instr.entry (.pointer (some ⟨r, 0, none⟩))).run Tryd.prog w1 = .ok (.tuple #[.agg #[.bool ya, .int .i64 yi, .bool yc], .map (some b)]) w1 := hen
      have HRG1 := Lib.hid hRG1
      have HMB := Lib.hid hmb
      have HSZ := Lib.hid hsz1
      have r1l := M1.l
      have BK : Below w1.heap.size w1 (w1.alloc (.cells #[.bool ya, .int .i64 yi, .bool yc] 60)) := (Below.refl _ _).alloc (Nat.le_refl _) _
      have M2 := M1.on hzz hgp hpr (BK.mono (by omega))
      have RG2 : Rg dK T (w1.alloc (.cells #[.bool ya, .int .i64 yi, .bool yc] 60)).heap[T]? (w1.alloc (.cells #[.bool ya, .int .i64 yi, .bool yc] 60)).heap[r]? ft (fun x => left x ∧ x ≠ ⟨ya, yi, yc⟩) cnt' := by
        rw [BK.block T (by have := M1.b.size; omega), BK.block r r1l]; exact hRG1
      have HRG2 := Lib.hid RG2
      clear hrun hen hRG hRG1 hmb hsz1 hmt RG2 hM M1 BR hgr hfb
      go_wp2_with fail
      clear hrun' hen'
      generalize (w1.alloc (.cells #[.bool ya, .int .i64 yi, .bool yc] 60)) = w2 at *
      refine (HMT _ _ _ M2.k.ks).out.mono ?_
      rintro e w3 ⟨rfl, B3⟩
      have r2l := M2.l
      have M3 := M2.on hzz hgp hpr (B3.mono (by omega))
      have RG3 : Rg dK T w3.heap[T]? w3.heap[r]? ft (fun x => left x ∧ x ≠ ⟨ya, yi, yc⟩) cnt' := by
        rw [B3.block T (by have := M2.b.size; omega), B3.block r r2l]; exact HRG2.out
      have HRG3 := Lib.hid RG3
      clear RG3 HRG2 HRG1 BK HMT M2 B3 r2l r1l
      cases mtb
      · have HIS3 := Lib.hid (HIS.out.congr (fun i q => ⟨fun h => (HPD.out i q).2 (.inl h), fun h => ((HPD.out i q).1 h).resolve_right (fun h => by simp at h)⟩))
        go_wp2
        go_roundw
        case rel => exact ⟨_, cnt', sq, ds, HRG3.out, HIS3.out, M3⟩
        case measure => rw [HRG3.out.left_eq, HRG.out.left_eq]; exact hcnt
      · obtain ⟨oi2, HR2, cnt2, RGi⟩ := HMB.out.range (t := 61) (e := 3) Tryd.underlying61 b w3 (M3.b.block b hbl)
        have r3l := M3.l
        go_wp2_with fail
        have BI2 : Below w3.heap.size w3 (w3.alloc oi2) := (Below.refl _ _).alloc (Nat.le_refl _) _
        have M4 := M3.on hzz hgp hpr (BI2.mono (by omega))
        have RG4 : Rg dK T (w3.alloc oi2).heap[T]? (w3.alloc oi2).heap[r]? ft (fun x => left x ∧ x ≠ ⟨ya, yi, yc⟩) cnt' := by
          rw [BI2.block T (by have := M3.b.size; omega), BI2.block r r3l]; exact HRG3.out
        have RGi4 : Rg dI b (w3.alloc oi2).heap[b]? (w3.alloc oi2).heap[w3.heap.size]? (fun i => (g ⟨ya, yi, yc⟩ i).map (Value.int .i64)) (fun i => ∃ v, (g ⟨ya, yi, yc⟩ i).map (Value.int .i64) = some v) cnt2 := by
          rw [M4.b.block b hbl, heap_alloc_new]; exact RGi
        have IS4 : IsAt (fun i q => Pd left lk g (j1, j2) i q ∨ (¬ (∃ v, (g ⟨ya, yi, yc⟩ i).map (Value.int .i64) = some v) ∧ g ⟨ya, yi, yc⟩ i = some q ∧ i ≠ (j1, j2))) N sq ds := HIS.out.congr (fun i q => ⟨.inl, fun h => h.resolve_right (fun h => h.1 ⟨_, by rw [h.2.1]; rfl⟩)⟩)
        have IS4' := Lib.hid IS4
        have Z4 : w3.heap.size < (w3.alloc oi2).heap.size := by simp
        clear IS4 HR2 BI2 HRG3 M3 RGi
        generalize hW4 : w3.alloc oi2 = w4 at *
        generalize w3.heap.size = r2 at *
        clear hW4
        go_loopw [41] (fun _ wq => ∃ (left2 : Int × Int → Prop) (cnt2 : Nat) (s : Int) (ds : List Int), Rg dI b wq.heap[b]? wq.heap[r2]? (fun i => (g ⟨ya, yi, yc⟩ i).map (Value.int .i64)) left2 cnt2 ∧ IsAt (fun i q => Pd left lk g (j1, j2) i q ∨ (¬ left2 i ∧ g ⟨ya, yi, yc⟩ i = some q ∧ i ≠ (j1, j2))) N s ds ∧ Arm w wq P gr N s ds j1 j2 A lk r ∧ Rg dK T wq.heap[T]? wq.heap[r]? ft (fun x => left x ∧ x ≠ ⟨ya, yi, yc⟩) cnt' ∧ r2 < wq.heap.size) (fun _ wq => wq.rangeLeft b r2)
        case atStart => exact ⟨_, cnt2, sq, ds, RGi4, IS4'.out, M4, RG4, Z4⟩
        case round =>
          obtain ⟨left2, cnt2, s2, ds2, hRi, hIS2, hM2, hRo, hr2⟩ := hrel
          have HIS2 := Lib.hid hIS2
          have HRi := Lib.hid hRi
          have HRo := Lib.hid hRo
          clear hIS2 hRo RGi4 IS4' M4 RG4 Z4
          rcases hRi.next goodI 0 with ⟨hl2, hrun2⟩ | ⟨i, v2, w5, cnt3, hok2, hli, hfi, hrun2, hRi1, hcnt2, hgr2, hsz2, hen2⟩
          · have IS5 := Lib.hid (HIS2.out.congr (fun i q => (show _ ↔ Pd (fun x => left x ∧ x ≠ ⟨ya, yi, yc⟩) lk g (j1, j2) i q from ⟨fun h => (HPD.out i q).2 (h.imp id (fun h => ⟨by first | rfl | trivial, h.2⟩)), fun h => ((HPD.out i q).1 h).imp id (fun h => ⟨hl2 i, h.2⟩)⟩)))
            clear hl2 hRi
            go_wp2
            go_roundw
            case rel => exact ⟨_, cnt', s2, ds2, HRo.out, IS5.out, hM2⟩
            case measure => rw [HRo.out.left_eq, HRG.out.left_eq]; exact hcnt
          · obtain ⟨q, hgq⟩ : ∃ q, g ⟨ya, yi, yc⟩ i = some q := by
              cases hgi : g ⟨ya, yi, yc⟩ i with
              | none => simp [hgi] at hfi
              | some q => exact ⟨q, rfl⟩
            rw [hgq] at hfi
            cases hfi
            obtain ⟨g1, g2, g3, g4⟩ := HG.out _ _ _ hgq
            have r2l := hM2.l
            have BR2 : Below r2 wr w5 := (Below.refl _ _).grown hgr2 (by omega) (fun k hk => by cases hk; omega)
            have M5 := hM2.on hzz hgp hpr (BR2.mono (by omega))
            have HIE := Lib.hid (fun (x : Int × Int) (p : Int) => in_step (left2 := left2) (P := Pd left lk g (j1, j2)) (f := g ⟨ya, yi, yc⟩) (self := (j1, j2)) hli hgq x p)
            obtain ⟨i1, i2⟩ := i
            have hrun3 : (Instr.next (.pointer (some ⟨r2, 0, none⟩)) false 0).run Tryd.prog wr = .ok (.tuple #[.bool true, .agg #[.int .i64 i1, .int .i64 i2], .int .i64 q]) w5 := hrun2
            have hen3 : (Instr.entry (.pointer (some ⟨r2, 0, none⟩))).run Tryd.prog w5 = .ok (.tuple #[.agg #[.int .i64 i1, .int .i64 i2], .int .i64 q]) w5 := hen2
            have hT5 : w5.heap[T]? = wr.heap[T]? := hgr2.block T (by have := hM2.b.size; omega) (by simp; have := hM2.b.size; omega)
            have hr5 : w5.heap[r]? = wr.heap[r]? := hgr2.block r (by omega) (by simp; omega)
            have BK : Below w5.heap.size w5 (w5.alloc (.cells #[.int .i64 i1, .int .i64 i2] 26)) := (Below.refl _ _).alloc (Nat.le_refl _) _
            have z5 := M5.l
            have z52 : r2 < w5.heap.size := by rw [hsz2]; exact hr2
            have M6 := M5.on hzz hgp hpr (BK.mono (by omega))
            have RO6 : Rg dK T (w5.alloc (.cells #[.int .i64 i1, .int .i64 i2] 26)).heap[T]? (w5.alloc (.cells #[.int .i64 i1, .int .i64 i2] 26)).heap[r]? ft (fun x => left x ∧ x ≠ ⟨ya, yi, yc⟩) cnt' := by
              rw [BK.block T (by have := M5.b.size; omega), BK.block r z5, hT5, hr5]; exact HRo.out
            have RI6 : Rg dI b (w5.alloc (.cells #[.int .i64 i1, .int .i64 i2] 26)).heap[b]? (w5.alloc (.cells #[.int .i64 i1, .int .i64 i2] 26)).heap[r2]? (fun i => (g ⟨ya, yi, yc⟩ i).map (Value.int .i64)) (fun x => left2 x ∧ x ≠ (i1, i2)) cnt3 := by
              rw [BK.block b (by have := M5.b.size; omega), BK.block r2 z52]; exact hRi1
            have I6 := At.ib_new w5 i1 i2
            obtain ⟨d0, d1⟩ := M5.i
            have HSZ5 := Lib.hid hsz2
            have HRO6 := Lib.hid RO6
            have HRI6 := Lib.hid RI6
            have z6 : r2 < (w5.alloc (.cells #[.int .i64 i1, .int .i64 i2] 26)).heap.size := Nat.lt_of_lt_of_le z52 BK.size
            have zs5 : w.heap.size + 1 < w5.heap.size := by omega
            clear hrun2 hen2 hRi hRi1 hT5 hr5 hgr2 BR2 M5 RO6 RI6 hsz2
            by_cases hs : (i1, i2) = (j1, j2)
            · have hsb := same_yes hs
              have IS7 := Lib.hid (HIS2.out.congr (fun x p => (show _ ↔ (Pd left lk g (j1, j2) x p ∨ (¬ (left2 x ∧ x ≠ (i1, i2)) ∧ g ⟨ya, yi, yc⟩ x = some p ∧ x ≠ (j1, j2))) from ⟨fun h => (HIE.out x p).2 (.inl h), fun h => ((HIE.out x p).1 h).resolve_right (fun h => h.1 hs)⟩)))
              go_wp2_with fail
              go_roundw
              case rel => exact ⟨_, cnt3, s2, ds2, HRI6.out, IS7.out, M6, HRO6.out, z6⟩
              case measure => rw [HRI6.out.left_eq, HRi.out.left_eq]; exact hcnt2
            · have hsb := same_no hs
              have IS7 := Lib.hid ((HIS2.out.step (i1, i2) q g1 g2 g3).congr (fun x p => (show _ ↔ (Pd left lk g (j1, j2) x p ∨ (¬ (left2 x ∧ x ≠ (i1, i2)) ∧ g ⟨ya, yi, yc⟩ x = some p ∧ x ≠ (j1, j2))) from ⟨fun h => (HIE.out x p).2 (h.imp id (fun h => ⟨hs, h⟩)), fun h => ((HIE.out x p).1 h).imp id (fun h => h.2)⟩)))
              have HW : Hid (Calls Tryd.prog 25 #[.pointer (some ⟨P, 0, none⟩), .agg #[.int .i64 i1, .int .i64 i2], .int .i64 q] (w5.alloc (.cells #[.int .i64 i1, .int .i64 i2] 26)) (WtPost (w5.alloc (.cells #[.int .i64 i1, .int .i64 i2] 26)) P gr N (max s2 (sn q)) (ds2.set (i1 - 1).toNat (max (ds2.getD (i1 - 1).toNat 0) i2)))) := wait_any P gr N s2 q (i1, i2) ds2 _ M6.p M6.g HIS2.out.len (by omega) g1 g2 (by omega) g4
              go_wp2_with fail
              generalize (w5.alloc (.cells #[.int .i64 i1, .int .i64 i2] 26)) = w6 at *
              refine HW.out.mono ?_
              rintro e w7 hpost
              have M7 := M6.wait hzz hgp hpr hpost
              obtain ⟨rfl, _, _, o7⟩ := hpost
              have l6 := M6.l
              have RO7 : Rg dK T w7.heap[T]? w7.heap[r]? ft (fun x => left x ∧ x ≠ ⟨ya, yi, yc⟩) cnt' := by
                rw [o7.block T (by have := M6.b.size; omega) (by omega), o7.block r l6 (by omega)]; exact HRO6.out
              have RI7 : Rg dI b w7.heap[b]? w7.heap[r2]? (fun i => (g ⟨ya, yi, yc⟩ i).map (Value.int .i64)) (fun x => left2 x ∧ x ≠ (i1, i2)) cnt3 := by
                rw [o7.block b (by have := M6.b.size; omega) (by omega), o7.block r2 z6 (by omega)]; exact HRI6.out
              have z7 : r2 < w7.heap.size := Nat.lt_of_lt_of_le z6 o7.size
              have HRO7 := Lib.hid RO7
              have HRI7 := Lib.hid RI7
              clear RO7 RI7 o7 M6 HW HRO6 HRI6
              go_wp2
              go_roundw
              case rel => exact ⟨_, cnt3, _, _, HRI7.out, IS7.out, M7, HRO7.out, z7⟩
              case measure => rw [HRI7.out.left_eq, HRi.out.left_eq]; exact hcnt2

set_option maxHeartbeats 1000000 in
theorem attr_fresh (X N : Nat) (n u s kk h m j1 j2 : Int) (t : ByteArray) (kb : Option Nat) (w : World) (hN : Nd w) (hx : Xb w X n kb none) (hn : am n = (N : Int)) (hN7 : N ≤ 7) :
    Calls Tryd.prog 16 #[.pointer (some ⟨X, 0, none⟩), cv u s kk h m t, .agg #[.int .i64 j1, .int .i64 j2]] w (AtP w (fun i q => False) N) := by
  have HA : ∀ W, Hid (Calls Tryd.prog 22 #[.int .i64 n] W fun e w' => e = .returned (.int .i64 (N : Int)) ∧ w' = W) := fun W => by have := among_any n W; rw [hn] at this; exact this
  have HNo : ∀ W, Hid (Calls Tryd.prog 23 #[.int .i64 (N : Int)] W fun e w' => ∃ g, e = .returned (.agg #[.int .i64 1, .slice (some ⟨g, 0, none⟩) N N]) ∧ At.Rx w' g (List.replicate N 0) ∧ W.heap.size ≤ g ∧ Below W.heap.size W w') := fun W => by have := nothing_any N (by omega) W; unfold AxPost at this; rw [List.length_replicate] at this; exact this
  have HO : ∀ W, Nd W → Hid (Calls Tryd.prog 31 #[cv u s kk h m t] W (KrPost W (kl ⟨u, s, kk, h, m, t⟩))) := fun W h' => of_own ⟨u, s, kk, h, m, t⟩ W h'
  have HLL := Lib.hid (kl_len ⟨u, s, kk, h, m, t⟩)
  generalize kl ⟨u, s, kk, h, m, t⟩ = lk at *
  have hXl := hx.lt
  have B0 : Below w.heap.size w (((w.alloc (.cells #[.int .i64 u, .int .i64 s, .int .i64 kk, .int .i64 h, .int .i64 m, .string t] 24)).alloc (.cells #[.int .i64 j1, .int .i64 j2] 26)).alloc (.cells #[.int .i64 0, .slice none 0 0] 32)) := (((Below.refl _ _).alloc (Nat.le_refl _) _).alloc (by simp) _).alloc (by simp; omega) _
  have Z0 : (((w.alloc (.cells #[.int .i64 u, .int .i64 s, .int .i64 kk, .int .i64 h, .int .i64 m, .string t] 24)).alloc (.cells #[.int .i64 j1, .int .i64 j2] 26)).alloc (.cells #[.int .i64 0, .slice none 0 0] 32)).heap.size = w.heap.size + 1 + 1 + 1 := by simp
  have C0 : Cb (((w.alloc (.cells #[.int .i64 u, .int .i64 s, .int .i64 kk, .int .i64 h, .int .i64 m, .string t] 24)).alloc (.cells #[.int .i64 j1, .int .i64 j2] 26)).alloc (.cells #[.int .i64 0, .slice none 0 0] 32)) w.heap.size u s kk h m t := ((cb_new w u s kk h m t).on ((Below.refl _ _).alloc (Nat.le_refl _) _) (by simp)).on ((Below.refl _ _).alloc (Nat.le_refl _) _) (by simp; omega)
  have I0 : At.Ib (((w.alloc (.cells #[.int .i64 u, .int .i64 s, .int .i64 kk, .int .i64 h, .int .i64 m, .string t] 24)).alloc (.cells #[.int .i64 j1, .int .i64 j2] 26)).alloc (.cells #[.int .i64 0, .slice none 0 0] 32)) (w.heap.size + 1) j1 j2 := by
    have h1 := At.ib_new (w.alloc (.cells #[.int .i64 u, .int .i64 s, .int .i64 kk, .int .i64 h, .int .i64 m, .string t] 24)) j1 j2
    rw [show (w.alloc (.cells #[.int .i64 u, .int .i64 s, .int .i64 kk, .int .i64 h, .int .i64 m, .string t] 24)).heap.size = w.heap.size + 1 by simp] at h1
    exact h1.on ((Below.refl _ _).alloc (Nat.le_refl _) _) (by simp)
  have A0 : At.Ax (((w.alloc (.cells #[.int .i64 u, .int .i64 s, .int .i64 kk, .int .i64 h, .int .i64 m, .string t] 24)).alloc (.cells #[.int .i64 j1, .int .i64 j2] 26)).alloc (.cells #[.int .i64 0, .slice none 0 0] 32)) (w.heap.size + 1 + 1) 0 none 0 0 := by
    have h1 := At.ax_new ((w.alloc (.cells #[.int .i64 u, .int .i64 s, .int .i64 kk, .int .i64 h, .int .i64 m, .string t] 24)).alloc (.cells #[.int .i64 j1, .int .i64 j2] 26)) 0 none 0 0
    rwa [show ((w.alloc (.cells #[.int .i64 u, .int .i64 s, .int .i64 kk, .int .i64 h, .int .i64 m, .string t] 24)).alloc (.cells #[.int .i64 j1, .int .i64 j2] 26)).heap.size = w.heap.size + 1 + 1 by simp] at h1
  have X0 := hx.on B0 hXl
  have N0 := hN.on B0
  have x0 := hx.c0
  have hX1 : X < w.heap.size + 1 := by omega
  have hX2 : X < w.heap.size + 1 + 1 := by omega
  go_enter Tryd.func16, Tryd.ntmps16
  go_wp2_with fail
  clear x0
  generalize (((w.alloc (.cells #[.int .i64 u, .int .i64 s, .int .i64 kk, .int .i64 h, .int .i64 m, .string t] 24)).alloc (.cells #[.int .i64 j1, .int .i64 j2] 26)).alloc (.cells #[.int .i64 0, .slice none 0 0] 32)) = W0 at *
  refine (HA _).out.mono ?_
  rintro e w1 ⟨rfl, rfl⟩
  go_wp2_with fail
  refine (HNo _).out.mono ?_
  rintro e W1 ⟨gr, rfl, R1, hg1, B1⟩
  have z1 := B1.size
  have hgl := R1.lt
  have C1 := C0.on B1 (by omega)
  have I1 := I0.on B1 (by omega)
  have A1 := A0.on B1 (by omega)
  have X1 := X0.on B1 (by omega)
  have N1 := N0.on B1
  have P2 := At.ax_new W1 1 (some ⟨gr, 0, none⟩) N N
  have BP : Below W1.heap.size W1 (W1.alloc (.cells #[.int .i64 1, .slice (some ⟨gr, 0, none⟩) N N] 32)) := (Below.refl _ _).alloc (Nat.le_refl _) _
  have ZP : (W1.alloc (.cells #[.int .i64 1, .slice (some ⟨gr, 0, none⟩) N N] 32)).heap.size = W1.heap.size + 1 := by simp
  have zc : w.heap.size < W1.heap.size := by omega
  obtain ⟨c0, c1, c2, c3, c4, c5⟩ := id C1
  go_wp2_with fail
  clear c0 c1 c2 c3 c4 c5
  have R2 := R1.old (.cells #[.int .i64 1, .slice (some ⟨gr, 0, none⟩) N N] 32)
  have I2 := I1.on BP (by omega)
  have A2 := A1.on BP (by omega)
  have X2 := X1.on BP (by omega)
  have N2 := N1.on BP
  have B02 := B0.trans ((B1.trans (BP.mono z1)).mono (by omega))
  generalize (W1.alloc (.cells #[.int .i64 1, .slice (some ⟨gr, 0, none⟩) N N] 32)) = W2 at *
  generalize W1.heap.size = P at *
  refine (HO _ N2).out.mono ?_
  rintro e W3 ⟨A, cc, rfl, kr, B3⟩
  have z3 := B3.size
  have R3 : At.Rx W3 gr (List.replicate N 0) := (B3.block gr (by omega)).trans R2
  have P3 := P2.on B3 (by omega)
  have I3 := I2.on B3 (by omega)
  have A3 := A2.on B3 (by omega)
  have X3 := X2.on B3 (by omega)
  have B03 := B02.trans (B3.mono (by omega))
  have KR3 : Kr W3 (fun x => P < x ∧ x < W3.heap.size) A lk := by
    rcases kr with h1 | ⟨r, h1, h2, h3⟩
    · exact .inl h1
    · exact .inr ⟨r, h1, ⟨by omega, lt_of_block h3⟩, h3⟩
  clear C0 I0 A0 X0 N0 C1 I1 A1 X1 N1 R1 P2 R2 I2 A2 X2 N2 BP B1 B3 B02 B0 kr HA HNo HO hN
  have HRG := run_range_nilMap (P := Tryd.prog) W3 53 60 61 Tryd.underlying53
  have hnx : ∀ ty, (Instr.next (.pointer (some ⟨W3.heap.size, 0, none⟩)) false ty).run Tryd.prog (W3.alloc (.mapIter none 0 #[] 0)) = _ := fun ty => run_next_nilMap W3 ty 0 0 #[]
  have x2 := X3.c2
  have hzz : w.heap.size + 1 + 1 < gr := by omega
  have hgp : gr < P := by omega
  have hpr : P < W3.heap.size := by omega
  have BI : Below W3.heap.size W3 (W3.alloc (.mapIter none 0 #[] 0)) := (Below.refl _ _).alloc (Nat.le_refl _) _
  have B04 := B03.trans (BI.mono (by omega))
  have R4 := R3.old (.mapIter none 0 #[] 0)
  have P4 := P3.old (.mapIter none 0 #[] 0)
  have A4 := A3.old (.mapIter none 0 #[] 0)
  obtain ⟨p0, p1⟩ := P4.rb
  obtain ⟨a0, a1⟩ := A4.rb
  have f0 := A4.free 0
  have f1 := A4.free 1
  go_wp2_with fail
  generalize (W3.alloc (.mapIter none 0 #[] 0)) = W4 at *
  generalize W3.heap.size = r at *
  refine wp_loop_rounds 1 ?_
  rw [rounds_succ]
  go_wp2
  have X9 : At.Ax ((W4.setCell ⟨w.heap.size + 1 + 1, 0, none⟩ (.int .i64 1)).setCell ⟨w.heap.size + 1 + 1, 1, none⟩ (.slice (some ⟨gr, 0, none⟩) N N)) (w.heap.size + 1 + 1) 1 (some ⟨gr, 0, none⟩) N N := (A4.set0 1).set1 _ _ _
  have R9 : At.Rx ((W4.setCell ⟨w.heap.size + 1 + 1, 0, none⟩ (.int .i64 1)).setCell ⟨w.heap.size + 1 + 1, 1, none⟩ (.slice (some ⟨gr, 0, none⟩) N N)) gr (List.replicate N 0) := (R4.other (by show gr ≠ w.heap.size + 1 + 1; omega) _).other (by show gr ≠ w.heap.size + 1 + 1; omega) _
  have E9 : Below w.heap.size w ((W4.setCell ⟨w.heap.size + 1 + 1, 0, none⟩ (.int .i64 1)).setCell ⟨w.heap.size + 1 + 1, 1, none⟩ (.slice (some ⟨gr, 0, none⟩) N N)) := (B04.setCell (by show w.heap.size ≤ w.heap.size + 1 + 1; omega) _).setCell (by show w.heap.size ≤ w.heap.size + 1 + 1; omega) _
  refine bodyPost_ret (run_res16 (B := w.heap.size + 1 + 1) rfl X9.rb) rfl ⟨1, List.replicate N 0, gr, rfl, R9, by omega, E9, is_none N⟩

theorem am_nat (n : Int) : ∃ N : Nat, am n = (N : Int) ∧ 1 ≤ N ∧ N ≤ 7 := ⟨(am n).toNat, by have := am_lo n; omega, by have := am_lo n; omega, by have := am_hi n; omega⟩

theorem attr_any (X N : Nat) (n : Int) (L : List Kn) (O : Nat → Prop) (c : Cd) (self : Int × Int) (w : World) (hN : Nd w) (h : Ix w X n L O) (hn : am n = (N : Int)) (h7 : N ≤ 7) :
    Calls Tryd.prog 16 #[.pointer (some ⟨X, 0, none⟩), cv c.u c.s c.k c.h c.n c.t, iv self] w (AtP w (Pq (am n) L c self) N) := by
  obtain ⟨wf, own, lt, kb, tb, hx, hm⟩ := h
  obtain ⟨u, s, kk, h', m, t⟩ := c
  obtain ⟨j1, j2⟩ := self
  rcases hm with ⟨rfl, rfl, rfl⟩ | ⟨K, T, g, rfl, rfl, hKT, oK, oT, hk, ht, hg⟩
  · refine (attr_fresh X N n u s kk h' m j1 j2 t none w hN hx hn h7).mono fun e w' ⟨s', ds, gg, h1, h2, h3, h4, h5⟩ => ⟨s', ds, gg, h1, h2, h3, h4, h5.congr fun i q => ⟨fun h => h.elim, fun ⟨k, hk, _⟩ => by simp at hk⟩⟩
  · obtain ⟨ft, ct, hmo, hin, _⟩ := ht
    refine (attr_made X T N n u s kk h' m j1 j2 t (some K) w hN hx hn h7 ft ct hmo g (fun a => ?_) (fun a i q hq => ?_)).mono fun e w' ⟨s', ds, gg, h1, h2, h3, h4, h5⟩ => ⟨s', ds, gg, h1, h2, h3, h4, h5.congr fun i q => ⟨?_, ?_⟩⟩
    · rcases hin a with h1 | ⟨b, c, h1, _, _, _, h2⟩
      · exact .inl h1
      · exact .inr ⟨b, c, h1, h2⟩
    · obtain ⟨k, hk, rfl, _, rfl⟩ := (hg a i q).1 hq
      obtain ⟨h1, h2, h3, h4⟩ := mb_iff.1 (wf.may k hk)
      rw [hn] at h2
      exact ⟨h1, h2, by omega, wf.low k hk⟩
    · rintro ⟨a, h6, h7, h8⟩
      obtain ⟨k, hk, rfl, h9, rfl⟩ := (hg a i q).1 h7
      exact ⟨k, hk, wf.may k hk, h8, itf_iff.2 ⟨a, h9, h6⟩, rfl, rfl⟩
    · rintro ⟨k, hk, _, h8, h9, rfl, rfl⟩
      obtain ⟨a, h10, h11⟩ := itf_iff.1 h9
      exact ⟨a, h11, (hg a k.i k.q).2 ⟨k, hk, rfl, h10, rfl⟩, h8⟩

end Go.Proofs.YtmeklhlojogdnaaDoor
