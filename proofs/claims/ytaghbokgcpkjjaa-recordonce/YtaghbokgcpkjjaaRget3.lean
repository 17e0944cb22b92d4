/-
  The walk of record.Get: it answers what 'rg' says. Conditions: the bytes are bytes, fewer than 2^62.
-/
import Derived.Test.YtaghbokgcpkjjaaPiece
namespace Go.Proofs.Ytaghbokgcpkjjaa
open Go.RowKit

/-- One step of a reader: the next number; where it stands then; its error. -/
def nst (xs : List Int) (most ab : Int) (p : Nat) (e : Int) : Int × Nat × Int :=
  if e ≠ 0 then (0, p, e) else if (gt 0 0 (xs.drop p)).2.2 ≠ 0 then (0, p, (gt 0 0 (xs.drop p)).2.2) else if most < (gt 0 0 (xs.drop p)).1 then (0, p, ab)
  else ((gt 0 0 (xs.drop p)).1, p + (gt 0 0 (xs.drop p)).2.1, 0)
/-- .. the next bytes. -/
def pst (xs : List Int) (m p : Nat) (e : Int) : List Int × Nat × Int :=
  if e ≠ 0 then ([], p, e) else if xs.length < p + m then ([], p, 3) else ((xs.drop p).take m, p + m, 0)

theorem nst_bd (xs : List Int) (most ab : Int) (p : Nat) (e : Int) (hx : ∀ x ∈ xs, 0 ≤ x ∧ x ≤ 255) (hp : p ≤ xs.length) (hm : 0 ≤ most) :
    (nst xs most ab p e).2.1 ≤ xs.length ∧ 0 ≤ (nst xs most ab p e).1 ∧ (nst xs most ab p e).1 ≤ most := by
  unfold nst
  split
  · exact ⟨hp, Int.le_refl _, hm⟩
  · split
    · exact ⟨hp, Int.le_refl _, hm⟩
    · split
      · exact ⟨hp, Int.le_refl _, hm⟩
      · rename_i h1 h2 h3
        have h4 : gt 0 0 (xs.drop p) = ((gt 0 0 (xs.drop p)).1, (gt 0 0 (xs.drop p)).2.1, 0) := by
          have h5 : (gt 0 0 (xs.drop p)).2.2 = 0 := by simpa using h2
          generalize gt 0 0 (xs.drop p) = z at h5
          obtain ⟨z1, z2, z3⟩ := z
          simp only at h5
          rw [h5]
        obtain ⟨_, q1, q2, _⟩ := gt_once (fun x hx' => hx x (List.mem_of_mem_drop hx')) h4
        rw [List.length_drop] at q1
        exact ⟨by simp only; omega, q2, by simp only; omega⟩

theorem pst_bd (xs : List Int) (m p : Nat) (e : Int) (hx : ∀ x ∈ xs, 0 ≤ x ∧ x ≤ 255) (hp : p ≤ xs.length) :
    (pst xs m p e).2.1 ≤ xs.length ∧ (pst xs m p e).1.length ≤ m ∧ ∀ x ∈ (pst xs m p e).1, 0 ≤ x ∧ x ≤ 255 := by
  unfold pst
  split
  · exact ⟨hp, Nat.zero_le _, fun x h => by cases h⟩
  · split
    · exact ⟨hp, Nat.zero_le _, fun x h => by cases h⟩
    · exact ⟨by simp only; omega, by simp only [List.length_take]; omega, fun x h => hx x (List.mem_of_mem_drop (List.mem_of_mem_take h))⟩

theorem nst_late {xs : List Int} {most ab : Int} {p : Nat} {e : Int} (h : e ≠ 0) : nst xs most ab p e = (0, p, e) := by rw [nst, if_pos h]
theorem pst_late {xs : List Int} {m p : Nat} {e : Int} (h : e ≠ 0) : pst xs m p e = ([], p, e) := by rw [pst, if_pos h]
theorem nst_bad {xs : List Int} {most ab : Int} {p : Nat} {n : Int} {k : Nat} {f : Int} (h : gt 0 0 (xs.drop p) = (n, k, f)) (hf : f ≠ 0) : nst xs most ab p 0 = (0, p, f) := by
  rw [nst, if_neg (by simp), h, if_pos hf]
theorem nst_above {xs : List Int} {most ab : Int} {p : Nat} {n : Int} {k : Nat} (h : gt 0 0 (xs.drop p) = (n, k, 0)) (hn : most < n) : nst xs most ab p 0 = (0, p, ab) := by
  rw [nst, if_neg (by simp), h, if_neg (by simp), if_pos hn]
theorem nst_ok {xs : List Int} {most ab : Int} {p : Nat} {n : Int} {k : Nat} (h : gt 0 0 (xs.drop p) = (n, k, 0)) (hn : ¬ most < n) : nst xs most ab p 0 = (n, p + k, 0) := by
  rw [nst, if_neg (by simp), h, if_neg (by simp), if_neg hn]
theorem pst_more {xs : List Int} {m p : Nat} (h : xs.length < p + m) : pst xs m p 0 = ([], p, 3) := by rw [pst, if_neg (by simp), if_pos h]
theorem pst_ok {xs : List Int} {m p : Nat} (h : ¬ xs.length < p + m) : pst xs m p 0 = ((xs.drop p).take m, p + m, 0) := by rw [pst, if_neg (by simp), if_neg h]

/-- What a reader makes of bytes, when all steps are done. -/
def fin3 (k : Int) (c d : List Int) (p : Nat) (e : Int) : Int × List Int × Nat × Int := if e ≠ 0 then (0, [], 0, e) else if sm d = us c then (k, d, p, 0) else (0, [], 0, 4)

theorem rg_steps (xs : List Int) (a b : Int × Nat × Int) (c d : List Int × Nat × Int) (ha : nst xs 1048576 2 0 0 = a) (hb : nst xs 1024 7 a.2.1 a.2.2 = b) (hc : pst xs 4 b.2.1 b.2.2 = c) (hd : pst xs b.1.toNat c.2.1 c.2.2 = d) :
    rg xs = fin3 a.1 c.1 d.1 d.2.1 d.2.2 := by
  have late : ∀ (f : Int) (p q : Nat) (m : Nat), f ≠ 0 → pst xs 4 p f = c → pst xs m c.2.1 c.2.2 = d → fin3 a.1 c.1 d.1 d.2.1 d.2.2 = (0, [], 0, f) := by
    intro f p q m hf h1 h2
    rw [pst_late hf] at h1
    subst h1
    rw [pst_late hf] at h2
    subst h2
    rw [fin3, if_pos hf]
  rcases h1 : gt 0 0 xs with ⟨k, p, e⟩
  have d1 : gt 0 0 (xs.drop 0) = (k, p, e) := by rw [List.drop_zero]; exact h1
  by_cases he : e = 0
  · subst he
    by_cases hk : 1048576 < k
    · rw [nst_above d1 hk] at ha
      subst ha
      rw [nst_late (by decide)] at hb
      subst hb
      rw [late 2 0 0 0 (by decide) hc hd, rg_e2 h1 hk]
    · rw [nst_ok d1 hk] at ha
      subst ha
      simp only [Nat.zero_add] at hb ⊢
      rcases h2 : gt 0 0 (xs.drop p) with ⟨n, j, f⟩
      by_cases hf : f = 0
      · subst hf
        by_cases hn : 1024 < n
        · rw [nst_above h2 hn] at hb
          subst hb
          rw [late 7 p 0 0 (by decide) hc hd, rg_e4 h1 hk h2 hn]
        · rw [nst_ok h2 hn] at hb
          subst hb
          rw [rg_e5 h1 hk h2 hn]
          by_cases h4 : xs.length < p + j + 4
          · rw [pst_more h4] at hc
            subst hc
            have hd' : pst xs n.toNat (p + j) 3 = d := hd
            rw [pst_late (by decide)] at hd'
            subst hd'
            rw [rgt_more (by omega)]
            rfl
          · rw [pst_ok h4] at hc
            subst hc
            by_cases h5 : xs.length < p + j + 4 + n.toNat
            · rw [pst_more h5] at hd
              subst hd
              rw [rgt_more h5]
              rfl
            · rw [pst_ok h5] at hd
              subst hd
              by_cases hs : sm ((xs.drop (p + j + 4)).take n.toNat) = us ((xs.drop (p + j)).take 4)
              · rw [rgt_ok h5 hs, fin3, if_neg (by simp), if_pos hs]
              · rw [rgt_sum h5 hs, fin3, if_neg (by simp), if_neg hs]
      · rw [nst_bad h2 hf] at hb
        subst hb
        rw [late f p 0 0 hf hc hd, rg_e3 h1 hk h2 hf]
  · rw [nst_bad d1 he] at ha
    subst ha
    rw [nst_late he] at hb
    subst hb
    rw [late e 0 0 0 he hc hd, rg_e1 h1 he]

theorem gt_bad0 {xs : List Int} {n : Int} {k : Nat} {f : Int} (h : gt 0 0 xs = (n, k, f)) (hf : f ≠ 0) : gt 0 0 xs = (0, 0, f) := by
  rcases gt_err xs 0 0 with h0 | h0 | h0
  · rw [h] at h0; exact absurd h0 hf
  · rw [h0] at h ⊢; simp at h; rw [h.2.2]
  · rw [h0] at h ⊢; simp at h; rw [h.2.2]

theorem number_any (R : Nat) (A : Option Addr) (c : Nat) (p : Nat) (most ab e : Int) (xs : List Int) (w : World) (h : Rd w R A xs.length c p e) (hl : xs.length ≤ 4611686018427387904) (hp : p ≤ xs.length) (hc : xs.length ≤ c)
    (hs : Sl w R .u8 A xs) (hx : ∀ x ∈ xs, 0 ≤ x ∧ x ≤ 255) (hab : ab ≠ 0) (r : Int × Nat × Int) (hr : nst xs most ab p e = r) :
    Calls Try.prog 23 #[.pointer (some ⟨R, 0, none⟩), .int .i64 most, .int .i64 ab] w (NumPost w R A xs.length c r.1 (r.2.1 : Int) r.2.2) := by
  by_cases he : e = 0
  · subst he
    rcases h1 : gt 0 0 (xs.drop p) with ⟨n, k, f⟩
    by_cases hf : f = 0
    · subst hf
      by_cases hn : most < n
      · rw [nst_above h1 hn] at hr
        subst hr
        exact number_above R A c p most ab xs w h hl hp hc hs hx n k h1 hn hab
      · rw [nst_ok h1 hn] at hr
        subst hr
        exact number_ok R A c p most ab xs w h hl hp hc hs hx n k h1 (by omega)
    · rw [nst_bad h1 hf] at hr
      subst hr
      exact number_bad R A c p most ab xs w h hl hp hc hs hx f (gt_bad0 h1 hf) hf
  · rw [nst_late he] at hr
    subst hr
    exact number_late R A xs.length c p e most ab w h he

theorem piece_any (R : Nat) (A : Option Addr) (c : Nat) (p m : Nat) (e size : Int) (xs : List Int) (w : World) (h : Rd w R A xs.length c p e) (hl : xs.length ≤ 4611686018427387904) (hp : p ≤ xs.length) (hc : xs.length ≤ c)
    (hs : Sl w R .u8 A xs) (hm : m ≤ 1024) (hz : size = (m : Int)) (r : List Int × Nat × Int) (hr : pst xs m p e = r) :
    Calls Try.prog 25 #[.pointer (some ⟨R, 0, none⟩), .int .i64 size] w (PiecePost w R A xs.length c r.1 (r.2.1 : Int) r.2.2) := by
  subst hz
  by_cases he : e = 0
  · subst he
    by_cases h4 : xs.length < p + m
    · rw [pst_more h4] at hr
      subst hr
      exact piece_more R A xs.length c p m w h hp (by omega) h4
    · rw [pst_ok h4] at hr
      subst hr
      exact piece_ok R A c p m xs w h hl hc hs hm (by omega)
  · rw [pst_late he] at hr
    subst hr
    exact piece_late R A xs.length c p e m w h he

/-- What the address leads to is a block of bytes. -/
def Tg (w : World) (A : Option Addr) : Prop := ∀ a, A = some a → ∃ cs, w.heap[a.block]? = some (.cells cs 5 (0, 0))
theorem Tg.none (w : World) : Tg w none := fun a h => by cases h
theorem Tg.below {w w' : World} {A : Option Addr} (h : Tg w A) (hb : Below w.heap.size w w') : Tg w' A := fun a ha => by
  obtain ⟨cs, hc⟩ := h a ha
  exact ⟨cs, (hb.block a.block (lt_of_block hc)).trans hc⟩
theorem Tg.set {w : World} {A : Option Addr} (h : Tg w A) {p : Addr} (hp : ∀ a, A = some a → a.block ≠ p.block) (u : Value) : Tg (w.setCell p u) A := fun a ha => by
  obtain ⟨cs, hc⟩ := h a ha
  exact ⟨cs, (Below.heap_setCell w p u a.block (hp a ha)).trans hc⟩

/-- The call gave a record, how many bytes it is, and the error; nothing that was there has turned. -/
def RgPost (w : World) (r : Int × List Int × Nat × Int) (e : Ending) (w' : World) : Prop :=
  ∃ A c, e = .returned (.tuple #[.agg #[.int .i64 r.1, .slice A r.2.1.length c], .int .i64 (r.2.2.1 : Int), .int .i64 r.2.2.2]) ∧ Sl w' w'.heap.size .u8 A r.2.1 ∧ (r.2.1.length ≤ c ∧ Tg w' A) ∧ Below w.heap.size w w'

theorem rd_of_block {w : World} {R : Nat} {A : Option Addr} {n c : Nat} {p e : Int} (q : w.heap[R]? = some (.cells #[.slice A n c, .int .i64 p, .int .i64 e] 46 (0, 0))) : Rd w R A n c p e :=
  ⟨by simp [World.cell?, q], by simp [World.cell?, q], by simp [World.cell?, q], by simp [World.frozen?, q], by simp [World.frozen?, q], lt_of_block q⟩

/-- A record's block that lies open for a store. -/
def Box (w : World) (B : Nat) : Prop := w.cell? ⟨B, 0, none⟩ = some (.int .i64 0) ∧ w.cell? ⟨B, 1, none⟩ = some (.slice none 0 0) ∧ w.frozen? ⟨B, 0, none⟩ = false ∧ w.frozen? ⟨B, 1, none⟩ = false ∧ B < w.heap.size
theorem box_of_block {w : World} {B : Nat} (q : w.heap[B]? = some (.cells #[.int .i64 0, .slice none 0 0] 24 (0, 0))) : Box w B :=
  ⟨by simp [World.cell?, q], by simp [World.cell?, q], by simp [World.frozen?, q], by simp [World.frozen?, q], lt_of_block q⟩
theorem box_on {w w' : World} {B : Nat} (h : Box w B) (hb : Below w.heap.size w w') : Box w' B := by
  obtain ⟨c0, c1, f0, f1, hlt⟩ := h
  exact ⟨(hb.cell (p := ⟨B, 0, none⟩) hlt).trans c0, (hb.cell (p := ⟨B, 1, none⟩) hlt).trans c1, (hb.frozen (p := ⟨B, 0, none⟩) hlt).trans f0, (hb.frozen (p := ⟨B, 1, none⟩) hlt).trans f1, Nat.lt_of_lt_of_le hlt hb.size⟩

theorem run_res13 {V : World} {tm : Array Value} {B : Nat} {x0 x1 u v : Value} (h2 : tm[2]?.getD undef = .pointer (some ⟨B, 0, none⟩)) (h3 : tm[3]?.getD undef = u) (h4 : tm[4]?.getD undef = v) (h0 : V.cell? ⟨B, 0, none⟩ = some x0) (h1 : V.cell? ⟨B, 1, none⟩ = some x1) :
    (results Try.f13 tm).run Try.prog V = .ok (.tuple #[.agg #[x0, x1], u, v]) V := by
  simp [results, Try.results13, h2, h3, h4, go_sem, h0, h1]
theorem two_cells {w : World} {B : Nat} {u v : Value} (h : Box w B) : ((w.setCell ⟨B, 0, none⟩ u).setCell ⟨B, 1, none⟩ v).cell? ⟨B, 0, none⟩ = some u ∧ ((w.setCell ⟨B, 0, none⟩ u).setCell ⟨B, 1, none⟩ v).cell? ⟨B, 1, none⟩ = some v := by
  obtain ⟨c0, c1, _⟩ := h
  exact ⟨by go_cell, by go_cell⟩

theorem Sl.set {w : World} {B : Nat} {k : IntKind} {A : Option Addr} {xs : List Int} (h : Sl w B k A xs) {p : Addr} (hp : ∀ a, A = some a → a.block ≠ p.block) (u : Value) : Sl (w.setCell p u) B k A xs := by
  rcases h with rfl | ⟨b, off, hA, hlt, hc⟩
  · exact .inl rfl
  · refine .inr ⟨b, off, hA, hlt, fun j x hx => ?_⟩
    have hb := hp _ hA
    rw [World.cell?_of_block (w := w) (Below.heap_setCell w p u b hb)]
    exact hc j x hx
theorem res_below {w W w4 w5 : World} {u v : Value} (h : Below w.heap.size w W) (h4 : Below (w.heap.size + 1) W w4) (h5 : Below w4.heap.size w4 w5) :
    Below w.heap.size w ((w5.setCell ⟨w.heap.size, 0, none⟩ u).setCell ⟨w.heap.size, 1, none⟩ v) := by
  have hb : Below w.heap.size w w5 := (h.trans (h4.mono (by omega))).trans (h5.mono (Nat.le_trans h.size h4.size))
  exact (hb.setCell (Nat.le_refl _) _).setCell (Nat.le_refl _) _
theorem rg_fin {w W w4 w5 : World} {A4 : Option Addr} {c4 : Nat} {k : Int} {ys : List Int} {p : Nat} {r : Int × List Int × Nat × Int} {u v : Value} (h : Below w.heap.size w W) (h4 : Below (w.heap.size + 1) W w4) (h5 : Below w4.heap.size w4 w5)
    (s4 : Sl w4 w4.heap.size .u8 A4 ys) (hl : ys.length ≤ c4) (hA : ∀ a, A4 = some a → w.heap.size + 1 < a.block ∧ ∃ cs, w4.heap[a.block]? = some (.cells cs 5 (0, 0))) (hr : r = (k, ys, p, 0)) :
    RgPost w r (.returned (.tuple #[.agg #[.int .i64 k, .slice A4 ys.length c4], .int .i64 (p : Int), .int .i64 0])) ((w5.setCell ⟨w.heap.size, 0, none⟩ u).setCell ⟨w.heap.size, 1, none⟩ v).drew := by
  subst hr
  have t4 : Tg w4 A4 := fun a ha => (hA a ha).2
  have t6 := ((t4.below h5).set (p := ⟨w.heap.size, 0, none⟩) (fun a ha => by have := (hA a ha).1; show a.block ≠ w.heap.size; omega) u).set (p := ⟨w.heap.size, 1, none⟩) (fun a ha => by have := (hA a ha).1; show a.block ≠ w.heap.size; omega) v
  refine ⟨A4, c4, rfl, ?_, ⟨hl, t6⟩, (res_below h h4 h5).drew⟩
  have s5 : Sl w5 w5.heap.size .u8 A4 ys := (s4.below h5).mono h5.size
  have s6 := (s5.set (p := ⟨w.heap.size, 0, none⟩) (fun a ha => by have := (hA a ha).1; show a.block ≠ w.heap.size; omega) u).set (p := ⟨w.heap.size, 1, none⟩) (fun a ha => by have := (hA a ha).1; show a.block ≠ w.heap.size; omega) v
  have e : ((w5.setCell ⟨w.heap.size, 0, none⟩ u).setCell ⟨w.heap.size, 1, none⟩ v).drew.heap.size = w5.heap.size := by simp
  rw [e]
  exact s6
theorem rg_none {w w' : World} {r : Int × List Int × Nat × Int} {e : Int} (h : Below w.heap.size w w') (hr : r = (0, [], 0, e)) :
    RgPost w r (.returned (.tuple #[.agg #[.int .i64 0, .slice none 0 0], .int .i64 0, .int .i64 e])) w' := by
  subst hr
  exact ⟨none, 0, rfl, Sl.nil, ⟨Nat.le_refl _, Tg.none _⟩, h⟩

set_option maxHeartbeats 1000000 in
theorem rget3_any (A : Option Addr) (c : Nat) (xs : List Int) (w : World) (hl : xs.length ≤ 4611686018427387904) (hc : xs.length ≤ c) (hs : Sl w w.heap.size .u8 A xs) (hx : ∀ x ∈ xs, 0 ≤ x ∧ x ≤ 255) :
    Calls Try.prog 13 #[.slice A xs.length c] w (RgPost w (rg xs)) := by
  obtain ⟨a, ha⟩ : ∃ a, nst xs 1048576 2 0 0 = a := ⟨_, rfl⟩
  obtain ⟨b, hb⟩ : ∃ b, nst xs 1024 7 a.2.1 a.2.2 = b := ⟨_, rfl⟩
  obtain ⟨d, hd⟩ : ∃ d, pst xs 4 b.2.1 b.2.2 = d := ⟨_, rfl⟩
  obtain ⟨f, hf⟩ : ∃ f, pst xs b.1.toNat d.2.1 d.2.2 = f := ⟨_, rfl⟩
  rw [rg_steps xs a b d f ha hb hd hf]
  have HW : Below w.heap.size w ((w.alloc (.cells #[.int .i64 0, .slice none 0 0] 24)).alloc (.cells #[.slice A xs.length c, .int .i64 0, .int .i64 0] 46)) := ((Below.refl _ _).alloc (Nat.le_refl _) _).alloc (by simp) _
  have R0 : Rd ((w.alloc (.cells #[.int .i64 0, .slice none 0 0] 24)).alloc (.cells #[.slice A xs.length c, .int .i64 0, .int .i64 0] 46)) (w.heap.size + 1) A xs.length c ((0 : Nat) : Int) 0 := by
    have q : ((w.alloc (.cells #[.int .i64 0, .slice none 0 0] 24)).alloc (.cells #[.slice A xs.length c, .int .i64 0, .int .i64 0] 46)).heap[w.heap.size + 1]? = some (.cells #[.slice A xs.length c, .int .i64 0, .int .i64 0] 46 (0, 0)) := by
      have := heap_alloc_new (w.alloc (.cells #[.int .i64 0, .slice none 0 0] 24)) (.cells #[.slice A xs.length c, .int .i64 0, .int .i64 0] 46)
      simpa using this
    exact rd_of_block q
  have D0 : ((w.alloc (.cells #[.int .i64 0, .slice none 0 0] 24)).alloc (.cells #[.slice A xs.length c, .int .i64 0, .int .i64 0] 46)).heap[w.heap.size]? = some (.cells #[.int .i64 0, .slice none 0 0] 24 (0, 0)) :=
    (Below.heap_alloc _ _ _ (by simp)).trans (heap_alloc_new w _)
  obtain ⟨ap, a0, a1⟩ := ha ▸ nst_bd xs 1048576 2 0 0 hx (Nat.zero_le _) (by decide)
  obtain ⟨bp, b0, b1⟩ := hb ▸ nst_bd xs 1024 7 a.2.1 a.2.2 hx ap (by decide)
  obtain ⟨dp, dl, dx⟩ := hd ▸ pst_bd xs 4 b.2.1 b.2.2 hx bp
  obtain ⟨fp, fl, fx⟩ := hf ▸ pst_bd xs b.1.toNat d.2.1 d.2.2 hx dp
  have HA := Lib.hid ha
  have HB := Lib.hid hb
  have HD := Lib.hid hd
  have HF := Lib.hid hf
  have HX := Lib.hid hx
  clear ha hb hd hf hx
  go_enter Try.func13, Try.ntmps13
  go_wp2_with fail
  generalize hW : ((w.alloc (.cells #[.int .i64 0, .slice none 0 0] 24)).alloc (.cells #[.slice A xs.length c, .int .i64 0, .int .i64 0] 46)) = W at R0 D0 HW ⊢
  have S0 : Sl W (w.heap.size + 1) .u8 A xs := (hs.below HW).mono (by omega)
  clear hW
  refine (number_any (w.heap.size + 1) A c 0 1048576 2 0 xs W R0 hl (Nat.zero_le _) hc S0 HX.out (by decide) a HA.out).mono ?_
  rintro e w1 ⟨rfl, r1, q1⟩
  go_wp2_with fail
  refine (number_any (w.heap.size + 1) A c a.2.1 1024 7 a.2.2 xs w1 r1 hl ap hc (S0.below q1) HX.out (by decide) b HB.out).mono ?_
  rintro e w2 ⟨rfl, r2, q2⟩
  have Q2 := q1.trans q2
  clear q1 q2 r1
  go_wp2_with fail
  refine (piece_any (w.heap.size + 1) A c b.2.1 4 b.2.2 4 xs w2 r2 hl bp hc (S0.below Q2) (by decide) rfl d HD.out).mono ?_
  rintro e w3 ⟨A3, c3, rfl, s3, _, _, r3, q3⟩
  have Q3 := Q2.trans q3
  clear Q2 q3 r2
  go_wp2_with fail
  refine (rdsum_any A3 c3 d.1 w3 w3.heap.size dl s3 dx).mono ?_
  rintro e w3' ⟨rfl, rfl⟩
  go_wp2_with fail
  refine (piece_any (w.heap.size + 1) A c d.2.1 b.1.toNat d.2.2 b.1 xs w3 r3 hl dp hc (S0.below Q3) (by omega) (by omega) f HF.out).mono ?_
  rintro e w4 ⟨A4, c4, rfl, s4, l4, n4, r4, q4⟩
  have Q4 := Q3.trans q4
  clear Q3 q4 r3 s3
  have D4 : w4.heap[w.heap.size]? = some (.cells #[.int .i64 0, .slice none 0 0] 24 (0, 0)) := (Q4.block w.heap.size (by omega)).trans D0
  have X4 := box_of_block D4
  have X5 : ∀ w5, Below w4.heap.size w4 w5 → Box w5 w.heap.size := fun _ q => box_on X4 q
  have R5 : ∀ w5, Below w4.heap.size w4 w5 → Rd w5 (w.heap.size + 1) A xs.length c (f.2.1 : Int) f.2.2 := fun _ q => rd_on r4 q
  have HX4 := Lib.hid X5
  have HR5 := Lib.hid R5
  clear X5 R5
  by_cases he : f.2.2 = 0
  · have SM := Lib.hid (sum_any A4 c4 f.1 w4 (by omega) s4 fx)
    obtain ⟨_, _, k2, _⟩ := r4
    rw [he] at k2
    by_cases hs : sm f.1 = us d.1
    · clear X4 D4 D0
      go_wp2_with fail
      refine SM.out.mono ?_
      rintro e w5 ⟨rfl, q5⟩
      rw [hs]
      obtain ⟨x0, x1, y0, y1, xl⟩ := HX4.out w5 q5
      obtain ⟨_, m1, _, _, _, _⟩ := HR5.out w5 q5
      go_wp2_with fail
      go_region
      go_wp2
      have TC := two_cells (u := .int .i64 a.1) (v := .slice A4 f.1.length c4) (HX4.out w5 q5)
      try simp only [Exit.inBlock, Exit.then]
      refine bodyPost_ret (v := .tuple #[.agg #[.int .i64 a.1, .slice A4 f.1.length c4], .int .i64 (f.2.1 : Int), .int .i64 0]) (run_res13 (B := w.heap.size) rfl rfl rfl TC.1 TC.2) rfl ?_
      exact rg_fin HW Q4 q5 s4 l4 n4 (by rw [fin3, if_neg (by simpa using he), if_pos hs])
    · clear X4 D4 D0
      have hsb : (sm f.1 == us d.1) = false := by rw [beq_eq_false_iff_ne]; exact hs
      go_wp2_with fail
      refine SM.out.mono ?_
      rintro e w5 ⟨rfl, q5⟩
      obtain ⟨x0, x1, y0, y1, xl⟩ := HX4.out w5 q5
      go_wp2
      have TC := two_cells (u := .int .i64 0) (v := .slice none 0 0) (HX4.out w5 q5)
      try simp only [Exit.inBlock, Exit.then]
      refine bodyPost_ret (v := .tuple #[.agg #[.int .i64 0, .slice none 0 0], .int .i64 0, .int .i64 4]) (run_res13 (B := w.heap.size) rfl rfl rfl TC.1 TC.2) rfl ?_
      exact rg_none (res_below HW Q4 q5) (by rw [fin3, if_neg (by simpa using he), if_neg hs])
  · obtain ⟨_, _, k2, _⟩ := r4
    obtain ⟨x0, x1, y0, y1, xl⟩ := X4
    have heb : (f.2.2 == 0) = false := by rw [beq_eq_false_iff_ne]; exact he
    clear D4 D0
    go_wp2_with fail
    go_region
    go_wp2
    have TC := two_cells (u := .int .i64 0) (v := .slice none 0 0) (HX4.out w4 (Below.refl _ _))
    try simp only [Exit.inBlock, Exit.then]
    refine bodyPost_ret (v := .tuple #[.agg #[.int .i64 0, .slice none 0 0], .int .i64 0, .int .i64 f.2.2]) (run_res13 (B := w.heap.size) rfl rfl rfl TC.1 TC.2) rfl ?_
    exact rg_none (res_below HW Q4 (Below.refl _ _)).drew (by rw [fin3, if_pos he])

end Go.Proofs.Ytaghbokgcpkjjaa
