/-
  The walks of keys.Meet, of slices.IndexFunc and ContainsFunc over keys, and of keys.someMeet with its closures: they answer what 'mt' and 'sm' say. No conditions beyond the number of keys.
-/
import Derived.Test.YtmeklhlojogdnaaDoorMay
import Derived.Laws.EntriesVeiled
namespace Go.Proofs.YtmeklhlojogdnaaDoor
open Go.RowKit
set_option linter.unusedVariables false

/-- Do two keys meet? -/
def mt (x y : Ky) : Bool := (x.a == y.a) && ((x.i == y.i) && (x.c || y.c))

theorem meet_any (x y : Ky) (w : World) : Calls Tryd.prog 43 #[kv x.a x.i x.c, kv y.a y.i y.c] w (BoolPost w (mt x y)) := by
  obtain ⟨a, i, c⟩ := x
  obtain ⟨b, j, d⟩ := y
  have BE : Below w.heap.size w ((w.alloc (.cells #[.bool a, .int .i64 i, .bool c] 60)).alloc (.cells #[.bool b, .int .i64 j, .bool d] 60)) := ((Below.refl _ _).alloc (Nat.le_refl _) _).alloc (by simp) _
  have HB := Lib.hid BE
  have HM := Lib.hid (show mt ⟨a, i, c⟩ ⟨b, j, d⟩ = ((a == b) && ((i == j) && (c || d))) from rfl)
  clear BE
  rcases h1 : (a == b) with _ | _
  · go_enter Tryd.func43, Tryd.ntmps43
    go_wp2
    go_ret
    exact ⟨by rw [HM.out, h1]; rfl, HB.out⟩
  · rcases h2 : (i == j) with _ | _
    · go_enter Tryd.func43, Tryd.ntmps43
      go_wp2
      go_ret
      exact ⟨by rw [HM.out, h1, h2]; rfl, HB.out⟩
    · cases c
      · go_enter Tryd.func43, Tryd.ntmps43
        go_wp2
        go_ret
        exact ⟨by rw [HM.out, h1, h2]; rfl, HB.out⟩
      · go_enter Tryd.func43, Tryd.ntmps43
        go_wp2
        go_ret
        exact ⟨by rw [HM.out, h1, h2]; rfl, HB.out⟩

def IdxPost (w : World) (b : Bool) (e : Ending) (w' : World) : Prop := ∃ r : Int, e = .returned (.int .i64 r) ∧ decide (0 ≤ r) = b ∧ Below w.heap.size w w'

set_option maxHeartbeats 1000000 in
theorem idxk27 (P : Nat) (f : Ky → Bool) (S : World → Prop) (hS : ∀ W W', S W → Below W.heap.size W W' → S W')
    (HF : ∀ x W, S W → Hid (Calls Tryd.prog 45 #[kv x.a x.i x.c, .pointer (some ⟨P, 0, none⟩)] W (BoolPost W (f x)))) (A : Option Addr) (c : Nat) (l : List Ky) (w : World) (hs : Ks w w.heap.size A l) (hw : S w) (hl : l.length ≤ 1000000) :
    Calls Tryd.prog 51 #[.slice A l.length c, .func (.func 45) #[] #[.pointer (some ⟨P, 0, none⟩)]] w (IdxPost w (l.any f)) := by
  have HS := Lib.hid hs
  clear hs
  go_enter Tryd.func51, Tryd.ntmps51
  go_wp2
  go_loopw [8] (fun t wr => ∃ k : Nat, k ≤ l.length ∧ t = .int .i64 (k : Int) ∧ Below w.heap.size w wr ∧ (l.take k).any f = false) (fun t _ => 1000001 - (intOf t).toNat)
  case atStart => exact ⟨0, Nat.zero_le _, rfl, Below.refl _ _, rfl⟩
  case round =>
    obtain ⟨k, hk, rfl, hbel, hno⟩ := hrel
    have HN := Lib.hid hno
    clear hno
    by_cases hlt : k < l.length
    · have hlti : (k : Int) < (l.length : Int) := by omega
      rcases (HS.out.below hbel (Nat.le_refl _)) with rfl | ⟨b, off, rfl, hb, hc⟩
      · simp at hlt
      obtain ⟨q0, q1, q2⟩ := hc k l[k] (List.getElem?_eq_getElem hlt)
      have hsz := hbel.size
      have hb' : b < wr.heap.size := by omega
      have HC := HF l[k] wr (hS _ _ hw hbel)
      have HT : Hid ((l.take (k + 1)).any f = f l[k]) := by
        show _ = _
        rw [List.take_succ_eq_append_getElem hlt, List.any_append, HN.out]; simp
      have HL : Hid (f l[k] = true → l.any f = true) := fun h => List.any_eq_true.2 ⟨l[k], List.getElem_mem hlt, h⟩
      generalize l[k] = x at *
      obtain ⟨xa, xi, xc⟩ := x
      generalize f ⟨xa, xi, xc⟩ = r at *
      clear hc
      have h0 : (0 : Int) ≤ (k : Int) := by omega
      cases r
      · go_wp2_with fail
        refine HC.out.mono ?_
        rintro e w1 ⟨rfl, hb1⟩
        go_wp2
        go_roundw
        case rel => exact ⟨k + 1, by omega, by go_num, hbel.trans (hb1.mono hsz), HT.out⟩
        case measure => simp [intOf]; omega
      · go_wp2_with fail
        refine HC.out.mono ?_
        rintro e w1 ⟨rfl, hb1⟩
        go_wp2
        go_ret
        exact ⟨(k : Int), rfl, by rw [HL.out trivial]; exact decide_eq_true h0, hbel.trans (hb1.mono hsz)⟩
    · obtain rfl : k = l.length := by omega
      have hno := HN.out
      rw [List.take_length] at hno
      have HN' := Lib.hid hno
      clear hno HN HF
      go_wp2
      go_ret
      exact ⟨-1, rfl, by rw [HN'.out]; rfl, hbel⟩

theorem conk27 (P : Nat) (f : Ky → Bool) (S : World → Prop) (hS : ∀ W W', S W → Below W.heap.size W W' → S W')
    (HF : ∀ x W, S W → Hid (Calls Tryd.prog 45 #[kv x.a x.i x.c, .pointer (some ⟨P, 0, none⟩)] W (BoolPost W (f x)))) (A : Option Addr) (c : Nat) (l : List Ky) (w : World) (hs : Ks w w.heap.size A l) (hw : S w) (hl : l.length ≤ 1000000) :
    Calls Tryd.prog 41 #[.slice A l.length c, .func (.func 45) #[] #[.pointer (some ⟨P, 0, none⟩)]] w (BoolPost w (l.any f)) := by
  have H : Hid (Calls Tryd.prog 51 #[.slice A l.length c, .func (.func 45) #[] #[.pointer (some ⟨P, 0, none⟩)]] w (IdxPost w (l.any f))) := idxk27 P f S hS HF A c l w hs hw hl
  generalize l.any f = b at *
  clear HF hs
  go_enter Tryd.func41, Tryd.ntmps41
  go_wp2_with fail
  refine H.out.mono ?_
  rintro e w1 ⟨r, rfl, hr, hb1⟩
  go_wp2
  go_ret
  exact ⟨rfl, hb1⟩

set_option maxHeartbeats 1000000 in
theorem idxk26 (P : Nat) (f : Ky → Bool) (S : World → Prop) (hS : ∀ W W', S W → Below W.heap.size W W' → S W')
    (HF : ∀ x W, S W → Hid (Calls Tryd.prog 44 #[kv x.a x.i x.c, .pointer (some ⟨P, 0, none⟩)] W (BoolPost W (f x)))) (A : Option Addr) (c : Nat) (l : List Ky) (w : World) (hs : Ks w w.heap.size A l) (hw : S w) (hl : l.length ≤ 1000000) :
    Calls Tryd.prog 51 #[.slice A l.length c, .func (.func 44) #[] #[.pointer (some ⟨P, 0, none⟩)]] w (IdxPost w (l.any f)) := by
  have HS := Lib.hid hs
  clear hs
  go_enter Tryd.func51, Tryd.ntmps51
  go_wp2
  go_loopw [8] (fun t wr => ∃ k : Nat, k ≤ l.length ∧ t = .int .i64 (k : Int) ∧ Below w.heap.size w wr ∧ (l.take k).any f = false) (fun t _ => 1000001 - (intOf t).toNat)
  case atStart => exact ⟨0, Nat.zero_le _, rfl, Below.refl _ _, rfl⟩
  case round =>
    obtain ⟨k, hk, rfl, hbel, hno⟩ := hrel
    have HN := Lib.hid hno
    clear hno
    by_cases hlt : k < l.length
    · have hlti : (k : Int) < (l.length : Int) := by omega
      rcases (HS.out.below hbel (Nat.le_refl _)) with rfl | ⟨b, off, rfl, hb, hc⟩
      · simp at hlt
      obtain ⟨q0, q1, q2⟩ := hc k l[k] (List.getElem?_eq_getElem hlt)
      have hsz := hbel.size
      have hb' : b < wr.heap.size := by omega
      have HC := HF l[k] wr (hS _ _ hw hbel)
      have HT : Hid ((l.take (k + 1)).any f = f l[k]) := by
        show _ = _
        rw [List.take_succ_eq_append_getElem hlt, List.any_append, HN.out]; simp
      have HL : Hid (f l[k] = true → l.any f = true) := fun h => List.any_eq_true.2 ⟨l[k], List.getElem_mem hlt, h⟩
      generalize l[k] = x at *
      obtain ⟨xa, xi, xc⟩ := x
      generalize f ⟨xa, xi, xc⟩ = r at *
      clear hc
      have h0 : (0 : Int) ≤ (k : Int) := by omega
      cases r
      · go_wp2_with fail
        refine HC.out.mono ?_
        rintro e w1 ⟨rfl, hb1⟩
        go_wp2
        go_roundw
        case rel => exact ⟨k + 1, by omega, by go_num, hbel.trans (hb1.mono hsz), HT.out⟩
        case measure => simp [intOf]; omega
      · go_wp2_with fail
        refine HC.out.mono ?_
        rintro e w1 ⟨rfl, hb1⟩
        go_wp2
        go_ret
        exact ⟨(k : Int), rfl, by rw [HL.out trivial]; exact decide_eq_true h0, hbel.trans (hb1.mono hsz)⟩
    · obtain rfl : k = l.length := by omega
      have hno := HN.out
      rw [List.take_length] at hno
      have HN' := Lib.hid hno
      clear hno HN HF
      go_wp2
      go_ret
      exact ⟨-1, rfl, by rw [HN'.out]; rfl, hbel⟩

theorem conk26 (P : Nat) (f : Ky → Bool) (S : World → Prop) (hS : ∀ W W', S W → Below W.heap.size W W' → S W')
    (HF : ∀ x W, S W → Hid (Calls Tryd.prog 44 #[kv x.a x.i x.c, .pointer (some ⟨P, 0, none⟩)] W (BoolPost W (f x)))) (A : Option Addr) (c : Nat) (l : List Ky) (w : World) (hs : Ks w w.heap.size A l) (hw : S w) (hl : l.length ≤ 1000000) :
    Calls Tryd.prog 41 #[.slice A l.length c, .func (.func 44) #[] #[.pointer (some ⟨P, 0, none⟩)]] w (BoolPost w (l.any f)) := by
  have H : Hid (Calls Tryd.prog 51 #[.slice A l.length c, .func (.func 44) #[] #[.pointer (some ⟨P, 0, none⟩)]] w (IdxPost w (l.any f))) := idxk26 P f S hS HF A c l w hs hw hl
  generalize l.any f = b at *
  clear HF hs
  go_enter Tryd.func41, Tryd.ntmps41
  go_wp2_with fail
  refine H.out.mono ?_
  rintro e w1 ⟨r, rfl, hr, hb1⟩
  go_wp2
  go_ret
  exact ⟨rfl, hb1⟩

/-- The closure in the closure: does the key in the box meet that one? -/
theorem in2_any (P : Nat) (x y : Ky) (w : World) (hk : Kb w P x.a x.i x.c) : Calls Tryd.prog 45 #[kv y.a y.i y.c, .pointer (some ⟨P, 0, none⟩)] w (BoolPost w (mt x y)) := by
  have HM : ∀ W, Hid (Calls Tryd.prog 43 #[kv x.a x.i x.c, kv y.a y.i y.c] W (BoolPost W (mt x y))) := fun W => meet_any x y W
  generalize mt x y = b at *
  obtain ⟨xa, xi, xc⟩ := x
  obtain ⟨ya, yi, yc⟩ := y
  have hlt := hk.lt
  obtain ⟨p0, p1, p2⟩ := hk
  have hlt1 : P < w.heap.size + 1 := by omega
  go_enter Tryd.func45, Tryd.ntmps45
  go_wp2_with fail
  refine (HM _).out.mono ?_
  rintro e w1 ⟨rfl, hb1⟩
  go_wp2
  go_ret
  exact ⟨rfl, ((Below.refl _ _).alloc (Nat.le_refl _) _).trans (hb1.mono (by simp))⟩

/-- Does a key meet one of some? -/
def mts (m : List Ky) (x : Ky) : Bool := m.any (mt x)
/-- Does one of some meet one of some others? -/
def sm (l m : List Ky) : Bool := l.any (mts m)

/-- A slice of keys in a box. -/
def Kx (w : World) (P : Nat) (A : Option Addr) (m : List Ky) : Prop := ∃ c, w.cell? ⟨P, 0, none⟩ = some (.slice A m.length c) ∧ Ks w w.heap.size A m
theorem Kx.on {w w' : World} {P : Nat} {A : Option Addr} {m : List Ky} (h : Kx w P A m) (hb : Below w.heap.size w w') : Kx w' P A m := by
  obtain ⟨c, h1, h2⟩ := h
  exact ⟨c, (hb.cell (p := ⟨P, 0, none⟩) (World.block_lt_of_cell? w _ h1)).trans h1, (h2.below hb (Nat.le_refl _)).mono hb.size⟩

/-- The closure: does that key meet one of those in the box? -/
theorem in1_any (P : Nat) (A : Option Addr) (m : List Ky) (hm : m.length ≤ 1000000) (y : Ky) (w : World) (hk : Kx w P A m) : Calls Tryd.prog 44 #[kv y.a y.i y.c, .pointer (some ⟨P, 0, none⟩)] w (BoolPost w (mts m y)) := by
  have B0 : Below w.heap.size w (w.alloc (.cells #[.bool y.a, .int .i64 y.i, .bool y.c] 60)) := (Below.refl _ _).alloc (Nat.le_refl _) _
  have K0 := hk.on B0
  have C0 := kb_new w y.a y.i y.c
  obtain ⟨c, p0, ks⟩ := hk
  have hlt := World.block_lt_of_cell? w _ p0
  have hlt' : P < w.heap.size := hlt
  have HC : Hid (Calls Tryd.prog 41 #[.slice A m.length c, .func (.func 45) #[] #[.pointer (some ⟨w.heap.size, 0, none⟩)]] (w.alloc (.cells #[.bool y.a, .int .i64 y.i, .bool y.c] 60)) (BoolPost (w.alloc (.cells #[.bool y.a, .int .i64 y.i, .bool y.c] 60)) (mts m y))) :=
    conk27 w.heap.size (mt y) (fun W => Kb W w.heap.size y.a y.i y.c) (fun W W' h hb => h.on hb h.lt) (fun x W h => in2_any w.heap.size y x W h) A c m _ ((ks.below B0 (Nat.le_refl _)).mono (by simp)) C0 hm
  generalize mts m y = b at *
  obtain ⟨ya, yi, yc⟩ := y
  clear K0 C0 ks hlt
  have hmf : ∀ (fn : Fn) (first cap : Array Value) (w : World), (Instr.makeFunc fn first cap).run Tryd.prog w = .ok (.func fn first cap) w := fun _ _ _ _ => rfl
  go_enter Tryd.func44, Tryd.ntmps44
  go_wp2_with fail
  refine HC.out.mono ?_
  rintro e w1 ⟨rfl, hb1⟩
  go_wp2
  go_ret
  exact ⟨rfl, B0.trans (hb1.mono (by simp))⟩

theorem some_any (A A' : Option Addr) (c c' : Nat) (l m : List Ky) (w : World) (hl : l.length ≤ 1000000) (hm : m.length ≤ 1000000) (h1 : Ks w w.heap.size A l) (h2 : Ks w w.heap.size A' m) :
    Calls Tryd.prog 33 #[.slice A l.length c, .slice A' m.length c'] w (BoolPost w (sm l m)) := by
  have B0 : Below w.heap.size w (w.alloc (.cells #[.slice A' m.length c'] 57)) := (Below.refl _ _).alloc (Nat.le_refl _) _
  have K0 : Kx (w.alloc (.cells #[.slice A' m.length c'] 57)) w.heap.size A' m := ⟨c', by simp [go_sem], (h2.below B0 (Nat.le_refl _)).mono (by simp)⟩
  have HC : Hid (Calls Tryd.prog 41 #[.slice A l.length c, .func (.func 44) #[] #[.pointer (some ⟨w.heap.size, 0, none⟩)]] (w.alloc (.cells #[.slice A' m.length c'] 57)) (BoolPost (w.alloc (.cells #[.slice A' m.length c'] 57)) (sm l m))) :=
    conk26 w.heap.size (mts m) (fun W => Kx W w.heap.size A' m) (fun W W' h hb => h.on hb) (fun x W h => in1_any w.heap.size A' m hm x W h) A c l _ ((h1.below B0 (Nat.le_refl _)).mono (by simp)) K0 hl
  generalize sm l m = b at *
  clear K0 h1 h2
  have hmf : ∀ (fn : Fn) (first cap : Array Value) (w : World), (Instr.makeFunc fn first cap).run Tryd.prog w = .ok (.func fn first cap) w := fun _ _ _ _ => rfl
  go_enter Tryd.func33, Tryd.ntmps33
  go_wp2_with fail
  refine HC.out.mono ?_
  rintro e w1 ⟨rfl, hb1⟩
  go_wp2
  go_ret
  exact ⟨rfl, B0.trans (hb1.mono (by simp))⟩

end Go.Proofs.YtmeklhlojogdnaaDoor
