/-
  The walk of the document's Get of a record: it answers what 'rg' says. Conditions: the bytes are bytes, fewer than 2^62.
-/
import Derived.Test.YtaghbokgcpkjjaaSlices
import Derived.Test.YtaghbokgcpkjjaaRget
namespace Go.Proofs.Ytaghbokgcpkjjaa
open Go.RowKit
set_option linter.unusedVariables false

theorem run_res14 {V : World} {tm : Array Value} {B : Nat} {x0 x1 u v : Value} (h2 : tm[2]?.getD undef = .pointer (some ⟨B, 0, none⟩)) (h3 : tm[3]?.getD undef = u) (h4 : tm[4]?.getD undef = v) (h0 : V.cell? ⟨B, 0, none⟩ = some x0) (h1 : V.cell? ⟨B, 1, none⟩ = some x1) :
    (results Try.f14 tm).run Try.prog V = .ok (.tuple #[.agg #[x0, x1], u, v]) V := by
  simp [results, Try.results14, h2, h3, h4, go_sem, h0, h1]

/-- The world of the document's Get behind its first two blocks. -/
def W14 (w : World) : World := (w.alloc (.cells #[.int .i64 0, .slice none 0 0] 24)).alloc (.cells #[.int .i64 0, .slice none 0 0] 24)
theorem w14_below (w : World) : Below w.heap.size w (W14 w) := ((Below.refl _ _).alloc (Nat.le_refl _) _).alloc (by simp) _
theorem w14_box (w : World) : Box (W14 w) w.heap.size := box_of_block ((Below.heap_alloc _ _ _ (by simp)).trans (heap_alloc_new w _))
theorem w14_none (w : World) : Box (W14 w) (w.heap.size + 1) := box_of_block (by
  have := heap_alloc_new (w.alloc (.cells #[.int .i64 0, .slice none 0 0] 24)) (.cells #[.int .i64 0, .slice none 0 0] 24)
  simpa [W14] using this)

theorem rget_to {A : Option Addr} {c : Nat} {xs : List Int} {r : Int × Nat × Int} {W : World} {B : Nat} (hl : xs.length ≤ 4611686018427387904) (hs : Sl W B .u8 A xs) (hx : ∀ x ∈ xs, 0 ≤ x ∧ x ≤ 255) (hg : gt 0 0 xs = r) {n : Nat} (hn : xs.length = n) :
    Calls Try.prog 26 #[.slice A n c] W fun e w' => e = .returned (.tuple #[.int .i64 r.1, .int .i64 (r.2.1 : Int), .int .i64 r.2.2]) ∧ W = w' := by
  subst hn
  exact (rget_any A c xs W B hl hs hx).mono fun e w' ⟨he, hw⟩ => ⟨by rw [he, hg]; rfl, hw⟩

theorem rg14_none {w w' : World} {r : Int × List Int × Nat × Int} {e : Int} (h : Below w.heap.size w w') (hr : r = (0, [], 0, e)) :
    RgPost w r (.returned (.tuple #[.agg #[.int .i64 0, .slice none 0 0], .int .i64 0, .int .i64 e])) w' := rg_none h hr

set_option maxHeartbeats 800000 in
theorem rg14_e1 (A : Option Addr) (c : Nat) (xs : List Int) (w : World) (hl : xs.length ≤ 4611686018427387904) (hc : xs.length ≤ c) (hs : Sl w w.heap.size .u8 A xs) (hx : ∀ x ∈ xs, 0 ≤ x ∧ x ≤ 255) (e1 : Int) (h1 : gt 0 0 xs = (0, 0, e1)) (he : e1 ≠ 0) : Calls Try.prog 14 #[.slice A xs.length c] w (RgPost w (0, [], 0, e1)) := by
  have BW := w14_below w
  have XB := w14_box w
  have XN := w14_none w
  have H1 : Hid (Calls Try.prog 26 #[.slice A xs.length c] (W14 w) fun e w' => e = .returned (.tuple #[.int .i64 0, .int .i64 (0 : Int), .int .i64 e1]) ∧ W14 w = w') := rget_to hl (hs.below BW) hx h1 rfl
  have heb : (e1 == 0) = false := by rw [beq_eq_false_iff_ne]; exact he
  clear h1 hs hx he
  go_enter Try.func14, Try.ntmps14
  go_wp2_with fail
  obtain ⟨x0, x1, y0, y1, xl⟩ := XB
  obtain ⟨z0, z1, _, _, zl⟩ := XN
  have hfold : (w.alloc (.cells #[.int .i64 0, .slice none 0 0] 24)).alloc (.cells #[.int .i64 0, .slice none 0 0] 24) = W14 w := rfl
  rw [hfold]
  clear hfold
  generalize W14 w = W at *
  refine H1.out.mono ?_
  rintro e w1 ⟨rfl, rfl⟩
  go_wp2
  have TC := two_cells (u := .int .i64 0) (v := .slice none 0 0) (w := W) (B := w.heap.size) ⟨x0, x1, y0, y1, xl⟩
  try simp only [Exit.inBlock, Exit.then]
  refine bodyPost_ret (v := .tuple #[.agg #[.int .i64 0, .slice none 0 0], .int .i64 0, .int .i64 e1]) (run_res14 (B := w.heap.size) rfl rfl rfl TC.1 TC.2) rfl ?_
  exact rg_none ((BW.setCell (Nat.le_refl _) _).setCell (Nat.le_refl _) _) rfl

set_option maxHeartbeats 800000 in
theorem rg14_e2 (A : Option Addr) (c : Nat) (xs : List Int) (w : World) (hl : xs.length ≤ 4611686018427387904) (hc : xs.length ≤ c) (hs : Sl w w.heap.size .u8 A xs) (hx : ∀ x ∈ xs, 0 ≤ x ∧ x ≤ 255) (k : Int) (a : Nat) (h1 : gt 0 0 xs = (k, a, 0)) (hk : 1048576 < k) : Calls Try.prog 14 #[.slice A xs.length c] w (RgPost w (0, [], 0, 2)) := by
  have BW := w14_below w
  have XB := w14_box w
  have XN := w14_none w
  have H1 : Hid (Calls Try.prog 26 #[.slice A xs.length c] (W14 w) fun e w' => e = .returned (.tuple #[.int .i64 k, .int .i64 (a : Int), .int .i64 0]) ∧ W14 w = w') := rget_to hl (hs.below BW) hx h1 rfl
  clear h1 hs hx
  go_enter Try.func14, Try.ntmps14
  go_wp2_with fail
  obtain ⟨x0, x1, y0, y1, xl⟩ := XB
  obtain ⟨z0, z1, _, _, zl⟩ := XN
  have hfold : (w.alloc (.cells #[.int .i64 0, .slice none 0 0] 24)).alloc (.cells #[.int .i64 0, .slice none 0 0] 24) = W14 w := rfl
  rw [hfold]
  clear hfold
  generalize W14 w = W at *
  refine H1.out.mono ?_
  rintro e w1 ⟨rfl, rfl⟩
  go_wp2
  have TC := two_cells (u := .int .i64 0) (v := .slice none 0 0) (w := W) (B := w.heap.size) ⟨x0, x1, y0, y1, xl⟩
  try simp only [Exit.inBlock, Exit.then]
  refine bodyPost_ret (v := .tuple #[.agg #[.int .i64 0, .slice none 0 0], .int .i64 0, .int .i64 2]) (run_res14 (B := w.heap.size) rfl rfl rfl TC.1 TC.2) rfl ?_
  exact rg_none ((BW.setCell (Nat.le_refl _) _).setCell (Nat.le_refl _) _) rfl

set_option maxHeartbeats 800000 in
theorem rg14_e3 (A : Option Addr) (c : Nat) (xs : List Int) (w : World) (hl : xs.length ≤ 4611686018427387904) (hc : xs.length ≤ c) (hs : Sl w w.heap.size .u8 A xs) (hx : ∀ x ∈ xs, 0 ≤ x ∧ x ≤ 255) (k : Int) (a : Nat) (h1 : gt 0 0 xs = (k, a, 0)) (hk : ¬ 1048576 < k) (e2 : Int) (h2 : gt 0 0 (xs.drop a) = (0, 0, e2)) (he : e2 ≠ 0) : Calls Try.prog 14 #[.slice A xs.length c] w (RgPost w (0, [], 0, e2)) := by
  have BW := w14_below w
  have XB := w14_box w
  have XN := w14_none w
  have H1 : Hid (Calls Try.prog 26 #[.slice A xs.length c] (W14 w) fun e w' => e = .returned (.tuple #[.int .i64 k, .int .i64 (a : Int), .int .i64 0]) ∧ W14 w = w') := rget_to hl (hs.below BW) hx h1 rfl
  obtain ⟨_, ha, _, _, _⟩ := gt_once hx h1
  obtain ⟨A', r1, r2, hs'⟩ := tail_run hs c a a rfl ha hc
  have H2 : Hid (Calls Try.prog 26 #[.slice A' (xs.length - a) (c - a)] (W14 w) fun e w' => e = .returned (.tuple #[.int .i64 0, .int .i64 (0 : Int), .int .i64 e2]) ∧ W14 w = w') := rget_to (xs := xs.drop a) (by rw [List.length_drop]; omega) (hs'.below BW) (fun x hx' => hx x (List.mem_of_mem_drop hx')) h2 (List.length_drop ..)
  have hkd : decide (1048576 < k) = false := by simpa using hk
  have heb : (e2 == 0) = false := by rw [beq_eq_false_iff_ne]; exact he
  clear h1 h2 hs hx hs' he hk
  go_enter Try.func14, Try.ntmps14
  go_wp2_with fail
  obtain ⟨x0, x1, y0, y1, xl⟩ := XB
  obtain ⟨z0, z1, _, _, zl⟩ := XN
  have hfold : (w.alloc (.cells #[.int .i64 0, .slice none 0 0] 24)).alloc (.cells #[.int .i64 0, .slice none 0 0] 24) = W14 w := rfl
  rw [hfold]
  clear hfold
  generalize W14 w = W at *
  refine H1.out.mono ?_
  rintro e w1 ⟨rfl, rfl⟩
  go_wp2_with fail
  refine H2.out.mono ?_
  rintro e w1 ⟨rfl, rfl⟩
  go_wp2
  have TC := two_cells (u := .int .i64 0) (v := .slice none 0 0) (w := W) (B := w.heap.size) ⟨x0, x1, y0, y1, xl⟩
  try simp only [Exit.inBlock, Exit.then]
  refine bodyPost_ret (v := .tuple #[.agg #[.int .i64 0, .slice none 0 0], .int .i64 0, .int .i64 e2]) (run_res14 (B := w.heap.size) rfl rfl rfl TC.1 TC.2) rfl ?_
  exact rg_none ((BW.setCell (Nat.le_refl _) _).setCell (Nat.le_refl _) _) rfl

set_option maxHeartbeats 800000 in
theorem rg14_e4 (A : Option Addr) (c : Nat) (xs : List Int) (w : World) (hl : xs.length ≤ 4611686018427387904) (hc : xs.length ≤ c) (hs : Sl w w.heap.size .u8 A xs) (hx : ∀ x ∈ xs, 0 ≤ x ∧ x ≤ 255) (k : Int) (a : Nat) (h1 : gt 0 0 xs = (k, a, 0)) (hk : ¬ 1048576 < k) (n : Int) (j : Nat) (h2 : gt 0 0 (xs.drop a) = (n, j, 0)) (hn : 1024 < n) : Calls Try.prog 14 #[.slice A xs.length c] w (RgPost w (0, [], 0, 7)) := by
  have BW := w14_below w
  have XB := w14_box w
  have XN := w14_none w
  have H1 : Hid (Calls Try.prog 26 #[.slice A xs.length c] (W14 w) fun e w' => e = .returned (.tuple #[.int .i64 k, .int .i64 (a : Int), .int .i64 0]) ∧ W14 w = w') := rget_to hl (hs.below BW) hx h1 rfl
  obtain ⟨_, ha, _, _, _⟩ := gt_once hx h1
  obtain ⟨A', r1, r2, hs'⟩ := tail_run hs c a a rfl ha hc
  have H2 : Hid (Calls Try.prog 26 #[.slice A' (xs.length - a) (c - a)] (W14 w) fun e w' => e = .returned (.tuple #[.int .i64 n, .int .i64 (j : Int), .int .i64 0]) ∧ W14 w = w') := rget_to (xs := xs.drop a) (by rw [List.length_drop]; omega) (hs'.below BW) (fun x hx' => hx x (List.mem_of_mem_drop hx')) h2 (List.length_drop ..)
  have hkd : decide (1048576 < k) = false := by simpa using hk
  clear h1 h2 hs hx hs' hk
  go_enter Try.func14, Try.ntmps14
  go_wp2_with fail
  obtain ⟨x0, x1, y0, y1, xl⟩ := XB
  obtain ⟨z0, z1, _, _, zl⟩ := XN
  have hfold : (w.alloc (.cells #[.int .i64 0, .slice none 0 0] 24)).alloc (.cells #[.int .i64 0, .slice none 0 0] 24) = W14 w := rfl
  rw [hfold]
  clear hfold
  generalize W14 w = W at *
  refine H1.out.mono ?_
  rintro e w1 ⟨rfl, rfl⟩
  go_wp2_with fail
  refine H2.out.mono ?_
  rintro e w1 ⟨rfl, rfl⟩
  go_wp2
  have TC := two_cells (u := .int .i64 0) (v := .slice none 0 0) (w := W) (B := w.heap.size) ⟨x0, x1, y0, y1, xl⟩
  try simp only [Exit.inBlock, Exit.then]
  refine bodyPost_ret (v := .tuple #[.agg #[.int .i64 0, .slice none 0 0], .int .i64 0, .int .i64 7]) (run_res14 (B := w.heap.size) rfl rfl rfl TC.1 TC.2) rfl ?_
  exact rg_none ((BW.setCell (Nat.le_refl _) _).setCell (Nat.le_refl _) _) rfl

set_option maxHeartbeats 800000 in
theorem rg14_e5 (A : Option Addr) (c : Nat) (xs : List Int) (w : World) (hl : xs.length ≤ 4611686018427387904) (hc : xs.length ≤ c) (hs : Sl w w.heap.size .u8 A xs) (hx : ∀ x ∈ xs, 0 ≤ x ∧ x ≤ 255) (k : Int) (a : Nat) (h1 : gt 0 0 xs = (k, a, 0)) (hk : ¬ 1048576 < k) (n : Int) (j : Nat) (h2 : gt 0 0 (xs.drop a) = (n, j, 0)) (hn : ¬ 1024 < n) (hm : xs.length < a + j + 4 + n.toNat) : Calls Try.prog 14 #[.slice A xs.length c] w (RgPost w (0, [], 0, 3)) := by
  have BW := w14_below w
  have XB := w14_box w
  have XN := w14_none w
  have H1 : Hid (Calls Try.prog 26 #[.slice A xs.length c] (W14 w) fun e w' => e = .returned (.tuple #[.int .i64 k, .int .i64 (a : Int), .int .i64 0]) ∧ W14 w = w') := rget_to hl (hs.below BW) hx h1 rfl
  obtain ⟨_, ha, _, _, _⟩ := gt_once hx h1
  obtain ⟨A', r1, r2, hs'⟩ := tail_run hs c a a rfl ha hc
  have H2 : Hid (Calls Try.prog 26 #[.slice A' (xs.length - a) (c - a)] (W14 w) fun e w' => e = .returned (.tuple #[.int .i64 n, .int .i64 (j : Int), .int .i64 0]) ∧ W14 w = w') := rget_to (xs := xs.drop a) (by rw [List.length_drop]; omega) (hs'.below BW) (fun x hx' => hx x (List.mem_of_mem_drop hx')) h2 (List.length_drop ..)
  have hkd : decide (1048576 < k) = false := by simpa using hk
  obtain ⟨_, hj, n0, _, _⟩ := gt_once (fun x hx' => hx x (List.mem_of_mem_drop hx')) h2
  rw [List.length_drop] at hj
  have hnd : decide (1024 < n) = false := by simpa using hn
  have hmi : (xs.length : Int) < (a : Int) + (j : Int) + 4 + n := by omega
  clear h1 h2 hs hx hs' hk hn
  go_enter Try.func14, Try.ntmps14
  go_wp2_with fail
  obtain ⟨x0, x1, y0, y1, xl⟩ := XB
  obtain ⟨z0, z1, _, _, zl⟩ := XN
  have hfold : (w.alloc (.cells #[.int .i64 0, .slice none 0 0] 24)).alloc (.cells #[.int .i64 0, .slice none 0 0] 24) = W14 w := rfl
  rw [hfold]
  clear hfold
  generalize W14 w = W at *
  refine H1.out.mono ?_
  rintro e w1 ⟨rfl, rfl⟩
  go_wp2_with fail
  refine H2.out.mono ?_
  rintro e w1 ⟨rfl, rfl⟩
  go_wp2
  have TC := two_cells (u := .int .i64 0) (v := .slice none 0 0) (w := W) (B := w.heap.size) ⟨x0, x1, y0, y1, xl⟩
  try simp only [Exit.inBlock, Exit.then]
  refine bodyPost_ret (v := .tuple #[.agg #[.int .i64 0, .slice none 0 0], .int .i64 0, .int .i64 3]) (run_res14 (B := w.heap.size) rfl rfl rfl TC.1 TC.2) rfl ?_
  exact rg_none ((BW.setCell (Nat.le_refl _) _).setCell (Nat.le_refl _) _) rfl

theorem at_four {w : World} {B : Nat} {A : Option Addr} {xs : List Int} (h : Sl w B .u8 A xs) {p : Nat} (hp : p + 4 ≤ xs.length) (hx : ∀ x ∈ xs, 0 ≤ x ∧ x ≤ 255) : ∃ (b off : Nat) (v0 v1 v2 v3 : Int), A = some ⟨b, off, none⟩ ∧ b < B ∧ (xs.drop p).take 4 = [v0, v1, v2, v3] ∧
    (0 ≤ v0 ∧ v0 ≤ 255) ∧ (0 ≤ v1 ∧ v1 ≤ 255) ∧ (0 ≤ v2 ∧ v2 ≤ 255) ∧ (0 ≤ v3 ∧ v3 ≤ 255) ∧
    w.cell? ⟨b, off + p, none⟩ = some (.int .u8 v0) ∧ w.cell? ⟨b, off + (p + 1), none⟩ = some (.int .u8 v1) ∧ w.cell? ⟨b, off + (p + 2), none⟩ = some (.int .u8 v2) ∧ w.cell? ⟨b, off + (p + 3), none⟩ = some (.int .u8 v3) := by
  rcases h with rfl | ⟨b, off, hA, hb, hc⟩
  · simp at hp
  · refine ⟨b, off, xs[p]'(by omega), xs[p + 1]'(by omega), xs[p + 2]'(by omega), xs[p + 3]'(by omega), hA, hb, ?_, hx _ (List.getElem_mem _), hx _ (List.getElem_mem _), hx _ (List.getElem_mem _), hx _ (List.getElem_mem _), hc _ _ (List.getElem?_eq_getElem _), hc _ _ (List.getElem?_eq_getElem _), hc _ _ (List.getElem?_eq_getElem _), hc _ _ (List.getElem?_eq_getElem _)⟩
    rw [List.drop_eq_getElem_cons (by omega), List.drop_eq_getElem_cons (i := p + 1) (by omega), List.drop_eq_getElem_cons (i := p + 1 + 1) (by omega), List.drop_eq_getElem_cons (i := p + 1 + 1 + 1) (by omega)]
    rfl

theorem own_tag {w : World} {base : Nat} {v : Value} {n : Nat} {xs : List Value} (h : w.ownsRow base 5 1 v n xs) : ∀ A m c, v = .slice A m c → Tg w A := by
  intro A m c hv a ha
  subst ha
  rcases h.2 with ⟨rfl, _⟩ | ⟨g, cap, cur, rfl, _, hh, _⟩
  · cases hv
  · cases hv; exact ⟨cur, hh⟩
theorem rg_fin2 {w w5 : World} {A4 : Option Addr} {c4 : Nat} {k : Int} {ys : List Int} {p : Nat} {q : Int} {r : Int × List Int × Nat × Int} {u v : Value} (hb : Below w.heap.size w w5)
    (s4 : Sl w5 w5.heap.size .u8 A4 ys) (hl : ys.length ≤ c4) (hq : q = (p : Int)) (t4 : Tg w5 A4) (hA : ∀ a, A4 = some a → w.heap.size < a.block) (hr : r = (k, ys, p, 0)) :
    RgPost w r (.returned (.tuple #[.agg #[.int .i64 k, .slice A4 ys.length c4], .int .i64 q, .int .i64 0])) ((w5.setCell ⟨w.heap.size, 0, none⟩ u).setCell ⟨w.heap.size, 1, none⟩ v) := by
  subst hr hq
  have t6 := (t4.set (p := ⟨w.heap.size, 0, none⟩) (fun a ha => by have := hA a ha; show a.block ≠ w.heap.size; omega) u).set (p := ⟨w.heap.size, 1, none⟩) (fun a ha => by have := hA a ha; show a.block ≠ w.heap.size; omega) v
  refine ⟨A4, c4, rfl, ?_, ⟨hl, t6⟩, (hb.setCell (Nat.le_refl _) _).setCell (Nat.le_refl _) _⟩
  have s6 := (s4.set (p := ⟨w.heap.size, 0, none⟩) (fun a ha => by have := hA a ha; show a.block ≠ w.heap.size; omega) u).set (p := ⟨w.heap.size, 1, none⟩) (fun a ha => by have := hA a ha; show a.block ≠ w.heap.size; omega) v
  have e : ((w5.setCell ⟨w.heap.size, 0, none⟩ u).setCell ⟨w.heap.size, 1, none⟩ v).heap.size = w5.heap.size := by simp
  rw [e]
  exact s6

set_option maxHeartbeats 1600000 in
theorem rg14_sum (A : Option Addr) (c : Nat) (xs : List Int) (w : World) (hl : xs.length ≤ 4611686018427387904) (hc : xs.length ≤ c) (hs : Sl w w.heap.size .u8 A xs) (hx : ∀ x ∈ xs, 0 ≤ x ∧ x ≤ 255) (k : Int) (a : Nat) (h1 : gt 0 0 xs = (k, a, 0)) (hk : ¬ 1048576 < k) (n : Int) (j : Nat) (h2 : gt 0 0 (xs.drop a) = (n, j, 0)) (hn : ¬ 1024 < n) (m : Nat) (hm : n = (m : Int)) (p : Nat) (hp : a + j = p) (hpl : p + 4 + m ≤ xs.length) (r : Int × List Int × Nat × Int) (hr : rg xs = r) : Calls Try.prog 14 #[.slice A xs.length c] w (RgPost w r) := by
  have BW := w14_below w
  have XB := w14_box w
  have XN := w14_none w
  have H1 : Hid (Calls Try.prog 26 #[.slice A xs.length c] (W14 w) fun e w' => e = .returned (.tuple #[.int .i64 k, .int .i64 (a : Int), .int .i64 0]) ∧ W14 w = w') := rget_to hl (hs.below BW) hx h1 rfl
  obtain ⟨_, ha, _, _, _⟩ := gt_once hx h1
  obtain ⟨A', r1, r2, hs'⟩ := tail_run hs c a a rfl ha hc
  have H2 : Hid (Calls Try.prog 26 #[.slice A' (xs.length - a) (c - a)] (W14 w) fun e w' => e = .returned (.tuple #[.int .i64 n, .int .i64 (j : Int), .int .i64 0]) ∧ W14 w = w') := rget_to (xs := xs.drop a) (by rw [List.length_drop]; omega) (hs'.below BW) (fun x hx' => hx x (List.mem_of_mem_drop hx')) h2 (List.length_drop ..)
  have hkd : decide (1048576 < k) = false := by simpa using hk
  rw [rg_e5 h1 hk h2 hn] at hr
  subst hm
  obtain ⟨b, off, v0, v1, v2, v3, rfl, hb, h4, ⟨p0, p1⟩, ⟨p2, p3⟩, ⟨p4, p5⟩, ⟨p6, p7⟩, t0, t1, t2, t3⟩ := at_four hs (p := p) (by omega) hx
  have hnd : decide (1024 < (m : Int)) = false := by simpa using hn
  have hm10 : m ≤ 1024 := by omega
  have hpi : (a : Int) + (j : Int) = (p : Int) := by omega
  have hmi : decide ((xs.length : Int) < (p : Int) + 4 + (m : Int)) = false := by rw [decide_eq_false_iff_not]; omega
  have i0 : (0 : Int) ≤ (p : Int) := by omega
  have i1 : (p : Int) + 3 < (xs.length : Int) := by omega
  have i2 : (p : Int) + 2 < (xs.length : Int) := by omega
  have i3 : (p : Int) + 1 < (xs.length : Int) := by omega
  have i4 : (p : Int) < (xs.length : Int) := by omega
  have s0 := (BW.cell (p := ⟨b, off + p, none⟩) hb).trans t0
  have s1 := (BW.cell (p := ⟨b, off + (p + 1), none⟩) hb).trans t1
  have s2 := (BW.cell (p := ⟨b, off + (p + 2), none⟩) hb).trans t2
  have s3 := (BW.cell (p := ⟨b, off + (p + 3), none⟩) hb).trans t3
  have HQ1 := Lib.hid (show IntKind.i64.wrap ((p : Int) + 1) = (p : Int) + 1 by rw [IntWalk.i64_in _ (by omega)])
  have HQ2 := Lib.hid (show IntKind.i64.wrap ((p : Int) + 2) = (p : Int) + 2 by rw [IntWalk.i64_in _ (by omega)])
  have HQ3 := Lib.hid (show IntKind.i64.wrap ((p : Int) + 3) = (p : Int) + 3 by rw [IntWalk.i64_in _ (by omega)])
  obtain ⟨u, hu⟩ : ∃ u, us ((xs.drop p).take 4) = u := ⟨_, rfl⟩
  have hus : v0 * 16777216 + v1 * 65536 + v2 * 256 + v3 = u := by rw [← hu, h4, us_four]; omega
  have HU := Lib.hid hus
  have HUU := Lib.hid hu
  clear hus hu
  obtain ⟨t0', ti, tz0, tz1, tz2⟩ := info_parts info5
  have HR := Lib.hid hr
  have HX := Lib.hid hx
  have HS := Lib.hid hs
  have HP := Lib.hid hp
  clear h1 h2 hs hx hs' hk hn t0 t1 t2 t3 h4 hr hp
  go_enter Try.func14, Try.ntmps14
  go_wp2_with fail
  obtain ⟨x0, x1, y0, y1, xl⟩ := XB
  obtain ⟨z0, z1, _, _, zl⟩ := XN
  have hfold : (w.alloc (.cells #[.int .i64 0, .slice none 0 0] 24)).alloc (.cells #[.int .i64 0, .slice none 0 0] 24) = W14 w := rfl
  rw [hfold]
  clear hfold
  generalize W14 w = W at *
  refine H1.out.mono ?_
  rintro e w1 ⟨rfl, rfl⟩
  go_wp2_with fail
  refine H2.out.mono ?_
  rintro e w1 ⟨rfl, rfl⟩
  go_wp2_with fail
  have q1 := HQ1.out
  have q2 := HQ2.out
  have q3 := HQ3.out
  go_quiet (fail)
  clear q1 q2 q3
  rw [HU.out]
  have qW := below_drewN BW nq
  have X2 : Box (W.drewN nq) w.heap.size := ⟨x0, x1, y0, y1, xl⟩
  have Z2 : (W.drewN nq).cell? ⟨w.heap.size + 1, 0, none⟩ = some (.int .i64 0) := z0
  have Z3 : (W.drewN nq).cell? ⟨w.heap.size + 1, 1, none⟩ = some (.slice none 0 0) := z1
  have zl2 : w.heap.size + 1 < (W.drewN nq).heap.size := zl
  clear z0 z1 zl x0 x1 y0 y1 xl s0 s1 s2 s3 BW
  generalize W.drewN nq = W2 at *
  obtain ⟨A3, r3, r4, hs3⟩ := part_run (HS.out.below qW) c (p + 4) (p + 4 + m) ((p : Int) + 4) ((p : Int) + 4 + (m : Int)) (by omega) (by omega) (by omega) hpl hc
  have em : p + 4 + m - (p + 4) = m := by omega
  rw [em] at r3 r4 hs3
  obtain ⟨ys, hys⟩ : ∃ ys, (xs.drop (p + 4)).take m = ys := ⟨_, rfl⟩
  rw [hys] at hs3
  have hyl : ys.length = m := by rw [← hys, List.length_take, List.length_drop]; omega
  have hyb : ∀ x ∈ ys, 0 ≤ x ∧ x ≤ 255 := fun x h => HX.out x (List.mem_of_mem_drop (List.mem_of_mem_take (hys ▸ h)))
  have HYB := Lib.hid hyb
  have HYL := Lib.hid hyl
  have HYS := Lib.hid hys
  have hsz := qW.size
  clear hyb hys
  subst hyl
  go_wp2_with (first | (at_builtin; refine wpList_app rfl (.const (.slice none 0 0)) (.tmp 91) 22 rfl W2.heap.size 5 t0' (.int .u8 0) 1 Try.underlying22 ti tz0 tz1 tz2 rfl (.slice none 0 0) 0 [] rfl (World.ownsRow_nil _ _ _ _) w.heap.size .u8 A3 _ ys rfl hs3 (by unfold maxLen; omega) (by omega) (Nat.le_refl _) ?_; intro v5 w3 own5 grow5; simp only [Nat.zero_add, List.nil_append] at own5; have b3 : Below W2.heap.size W2 w3 := (Below.refl _ _).grown grow5 (Nat.le_refl _) (by simp [Value.ownBlock]); have X3 := box_on X2 b3; have z3 := (b3.cell (p := ⟨w.heap.size + 1, 0, none⟩) zl2).trans Z2; have z4 := (b3.cell (p := ⟨w.heap.size + 1, 1, none⟩) zl2).trans Z3; have hfr := own5.lt; have t5 := own_tag own5; obtain ⟨A5, c5, hv5, hs5, hc5⟩ := own_slice own5; subst hv5))
  refine (rsum_any A5 c5 ys w3 w3.heap.size (by omega) hs5 HYB.out).mono ?_
  rintro e w3' ⟨rfl, rfl⟩
  have qb : Below w.heap.size w w3 := qW.trans (b3.mono hsz)
  obtain ⟨x0, x1, y0, y1, xl⟩ := X3
  have HX3 := Lib.hid (show Box w3 w.heap.size from ⟨x0, x1, y0, y1, xl⟩)
  clear own5 grow5 r3 r4 b3 Z2 Z3 X2
  by_cases hsm : sm ys = u
  · rw [hsm]
    go_wp2
    have TC := two_cells (u := .int .i64 k) (v := .slice A5 ys.length c5) HX3.out
    try simp only [Exit.inBlock, Exit.then]
    refine bodyPost_ret (v := .tuple #[.agg #[.int .i64 k, .slice A5 ys.length c5], .int .i64 ((p : Int) + 4 + (ys.length : Int)), .int .i64 0]) (run_res14 (B := w.heap.size) rfl rfl rfl TC.1 TC.2) rfl ?_
    refine rg_fin2 qb hs5 hc5 (p := p + 4 + ys.length) (by omega) (t5 _ _ _ rfl) (fun a ha => ?_) ?_
    · have h9 : W2.heap.size ≤ a.block := (hfr a.block (by rw [ha]; rfl)).1
      omega
    · rw [← HR.out]
      have := rgt_ok (xs := xs) (k := k) (n := (ys.length : Int)) (a := a) (j := j) (by rw [HP.out, Int.toNat_natCast]; omega) (by rw [HP.out, Int.toNat_natCast, HYS.out, HUU.out]; exact hsm)
      rw [this, HP.out, Int.toNat_natCast, HYS.out]
  · have hsb : (sm ys == u) = false := by rw [beq_eq_false_iff_ne]; exact hsm
    go_wp2
    have TC := two_cells (u := .int .i64 0) (v := .slice none 0 0) HX3.out
    try simp only [Exit.inBlock, Exit.then]
    refine bodyPost_ret (v := .tuple #[.agg #[.int .i64 0, .slice none 0 0], .int .i64 0, .int .i64 4]) (run_res14 (B := w.heap.size) rfl rfl rfl TC.1 TC.2) rfl ?_
    refine rg_none ((qb.setCell (Nat.le_refl _) _).setCell (Nat.le_refl _) _) ?_
    rw [← HR.out]
    exact rgt_sum (by rw [HP.out, Int.toNat_natCast]; omega) (by rw [HP.out, Int.toNat_natCast, HYS.out, HUU.out]; exact hsm)

theorem rg14_any (A : Option Addr) (c : Nat) (xs : List Int) (w : World) (hl : xs.length ≤ 4611686018427387904) (hc : xs.length ≤ c) (hs : Sl w w.heap.size .u8 A xs) (hx : ∀ x ∈ xs, 0 ≤ x ∧ x ≤ 255) : Calls Try.prog 14 #[.slice A xs.length c] w (RgPost w (rg xs)) := by
  rcases h1 : gt 0 0 xs with ⟨k, a, e⟩
  by_cases he : e = 0
  · subst he
    by_cases hk : 1048576 < k
    · rw [rg_e2 h1 hk]; exact rg14_e2 A c xs w hl hc hs hx k a h1 hk
    · rcases h2 : gt 0 0 (xs.drop a) with ⟨n, j, f⟩
      by_cases hf : f = 0
      · subst hf
        by_cases hn : 1024 < n
        · rw [rg_e4 h1 hk h2 hn]; exact rg14_e4 A c xs w hl hc hs hx k a h1 hk n j h2 hn
        · by_cases hm : xs.length < a + j + 4 + n.toNat
          · rw [rg_e5 h1 hk h2 hn, rgt_more hm]; exact rg14_e5 A c xs w hl hc hs hx k a h1 hk n j h2 hn hm
          · obtain ⟨_, _, n0, _, _⟩ := gt_once (fun x hx' => hx x (List.mem_of_mem_drop hx')) h2
            exact rg14_sum A c xs w hl hc hs hx k a h1 hk n j h2 hn n.toNat (by omega) (a + j) rfl (by omega) _ rfl
      · rw [rg_e3 h1 hk h2 hf]; exact rg14_e3 A c xs w hl hc hs hx k a h1 hk f (gt_bad0 h2 hf) hf
  · rw [rg_e1 h1 he]; exact rg14_e1 A c xs w hl hc hs hx e (gt_bad0 h1 he) he

end Go.Proofs.Ytaghbokgcpkjjaa
