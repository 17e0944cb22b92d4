/-
  A command interferes with some just if it does with one of them; with more there are no fewer: KeysAny answers true whatever the command, the list and the one more; they read as they did. Conditions: none beyond the card's own (the table of what kinds need reads as its initialiser lays it).
-/
import Derived.Test.YtdpjkbhofebdiaaDoorOpen
import Derived.Deep.RegionHeld3
import Derived.Deep.DrawnRows
import Derived.Deep.QuietTactic
import Derived.BigQuiet
import Derived.Deep.RegionLaw
import Derived.Deep.AppendLies
import Derived.OwnWalk
import Derived.Test.YtdpjkbhofebdiaaDoorCards
import Derived.Test.YtdpjkbhofebdiaaDoorTie
import Derived.SevenTiedAt
namespace Go.Proofs.YtdpjkbhofebdiaaDoor.keysAny
open Go.ChangeShapes Go.WideShapes Go.ChangeAt Go.RowKit Go.Joins
set_option linter.unusedVariables false

/-- The cells of commands, one behind the other. -/
def cc : List Cd → List Value
  | [] => []
  | x :: l => .int .i64 x.u :: .int .i64 x.s :: .int .i64 x.k :: .int .i64 x.h :: .int .i64 x.n :: .string x.t :: cc l

theorem cc_len : ∀ l, (cc l).length = l.length * 6
  | [] => rfl
  | x :: l => by simp only [cc, List.length_cons, cc_len l]; omega
theorem cc_append : ∀ l m, cc (l ++ m) = cc l ++ cc m
  | [], m => rfl
  | x :: l, m => by simp [cc, cc_append l m]
theorem cc_one : ∀ l, ∀ u ∈ cc l, u.oneCell' = true
  | [], u, h => by cases h
  | x :: l, u, h => by
    simp only [cc, List.mem_cons] at h
    rcases h with rfl | rfl | rfl | rfl | rfl | rfl | h
    · rfl
    · rfl
    · rfl
    · rfl
    · rfl
    · rfl
    · exact cc_one l u h

/-- Cells that read as commands, read one by one. -/
theorem cc_read {w : World} {b : Nat} : ∀ (l : List Cd) (off : Nat) (hc : ∀ j x, l[j]? = some x → w.cell? ⟨b, off + j * 6, none⟩ = some (.int .i64 x.u) ∧ w.cell? ⟨b, off + j * 6 + 1, none⟩ = some (.int .i64 x.s) ∧ w.cell? ⟨b, off + j * 6 + 2, none⟩ = some (.int .i64 x.k) ∧ w.cell? ⟨b, off + j * 6 + 3, none⟩ = some (.int .i64 x.h) ∧ w.cell? ⟨b, off + j * 6 + 4, none⟩ = some (.int .i64 x.n) ∧ w.cell? ⟨b, off + j * 6 + 5, none⟩ = some (.string x.t)) (j : Nat) (u : Value), (cc l)[j]? = some u → w.cell? ⟨b, off + j, none⟩ = some u
  | [], off, hc, j, u, h => by simp [cc] at h
  | x :: l, off, hc, j, u, h => by
    obtain ⟨q0, q1, q2, q3, q4, q5⟩ := hc 0 x rfl
    simp only [Nat.zero_mul, Nat.add_zero] at q0 q1 q2 q3 q4 q5
    match j, h with
    | 0, h => simp [cc] at h; subst h; exact q0
    | 1, h => simp [cc] at h; subst h; exact q1
    | 2, h => simp [cc] at h; subst h; exact q2
    | 3, h => simp [cc] at h; subst h; exact q3
    | 4, h => simp [cc] at h; subst h; exact q4
    | 5, h => simp [cc] at h; subst h; exact q5
    | j + 6, h =>
      have h' : (cc l)[j]? = some u := by simpa [cc] using h
      have := cc_read l (off + 6) (fun i y hy => by
        have := hc (i + 1) y (by simpa using hy)
        rw [show off + (i + 1) * 6 = off + 6 + i * 6 by omega] at this
        exact this) j u h'
      rw [show off + (j + 6) = off + 6 + j by omega]
      exact this

/-- The cells of the command at a place. -/
theorem cc_at : ∀ (l : List Cd) (i : Nat) (x : Cd), l[i]? = some x → (cc l)[i * 6]? = some (.int .i64 x.u) ∧ (cc l)[i * 6 + 1]? = some (.int .i64 x.s) ∧ (cc l)[i * 6 + 2]? = some (.int .i64 x.k) ∧ (cc l)[i * 6 + 3]? = some (.int .i64 x.h) ∧ (cc l)[i * 6 + 4]? = some (.int .i64 x.n) ∧ (cc l)[i * 6 + 5]? = some (.string x.t)
  | [], i, x, h => by simp at h
  | y :: l, 0, x, h => by simp at h; subst h; exact ⟨rfl, rfl, rfl, rfl, rfl, rfl⟩
  | y :: l, i + 1, x, h => by
    obtain ⟨q0, q1, q2, q3, q4, q5⟩ := cc_at l i x (by simpa using h)
    rw [show (i + 1) * 6 = i * 6 + 6 by omega]
    exact ⟨q0, q1, q2, q3, q4, q5⟩

/-- A row of commands of the call's own is a slice that reads as them. -/
theorem own_cs {w : World} {base g cap : Nat} {l : List Cd} (h : w.ownsRow base 23 6 (.slice (some ⟨g, 0, none⟩) l.length cap) l.length (cc l)) : Cs w w.heap.size (some ⟨g, 0, none⟩) l := by
  refine .inr ⟨g, 0, rfl, (h.lt g rfl).2, fun i x hx => ?_⟩
  have hc : ∀ j u, (cc l)[j]? = some u → w.cell? ⟨g, 0 + j, none⟩ = some u := fun j u hu => by
    have := h.cells (g := g) rfl j u hu
    rwa [Addr.add_lit] at this
  obtain ⟨q0, q1, q2, q3, q4, q5⟩ := cc_at l i x hx
  exact ⟨hc _ _ q0, hc _ _ q1, hc _ _ q2, hc _ _ q3, hc _ _ q4, hc _ _ q5⟩

theorem info23 : (Tryd.prog.info? 23).map (fun i => (i.zero, i.size, i.bytes)) = some (some (.agg #[.int .i64 0, .int .i64 0, .int .i64 0, .int .i64 0, .int .i64 0, .string ⟨#[]⟩]), 6, 56) := by kernel_rfl

theorem run_app6 (w : World) (base ty B : Nat) (A : Option Addr) (c : Nat) (l : List Cd) (hs : Cs w B A l) (hl : l.length ≤ 1000) (hbase : base ≤ w.heap.size) :
    ∃ v' w', (Builtin.append_ #[24, 24] ty #[.slice none 0 0, .slice A l.length c]).run Tryd.prog w = .ok v' w' ∧ w'.ownsRow base 23 6 v' l.length (cc l) ∧ w.grownBy w' none := by
  obtain ⟨i0, hi, hz0, hz1, hz2⟩ := info_parts info23
  rcases A with _ | ad
  · have hn : l = [] := by
      rcases hs with h | ⟨b, off, h, _⟩
      · exact h
      · cases h
    subst hn
    refine ⟨.slice none 0 0, w, ?_, World.ownsRow_nil _ _ _ _, World.grownBy.refl w _⟩
    simp [Builtin.append_, run_underlying Tryd.underlying24, sizeOf, typeInfo, hi, Builtin.lenOf, Builtin.firstCells]
  · obtain ⟨v', w', h1, h2, h3, _⟩ := run_append_own (P := Tryd.prog) w base 24 ty 23 i0 _ 6 56 Tryd.underlying24 hi hz0 hz1 hz2 rfl (by decide) (.slice none 0 0) 0 [] (World.ownsRow_nil _ _ _ _) ad l.length c (cc l) (cc_len l)
      (fun j u hu => by
        rcases hs with rfl | ⟨b, off, h, _, hc⟩
        · simp [cc] at hu
        · cases h
          rw [Addr.add_lit]
          exact cc_read l off hc j u hu) (cc_one l) (by unfold maxLen; omega) (by omega) hbase
    refine ⟨v', w', h1, ?_, h3⟩
    rw [Nat.zero_add, List.nil_append] at h2
    exact h2

/-- 'append(nil, l...)' as a step of a region that draws. -/
theorem step_app6 {ops : Array Oper} {o : Oper} {a : Act} {w : World} {K : Act → World → Prop} {Q : Exit → Act → World → Prop} {E : Prop} (hgd : o.guard = none) (s x : Operand)
    (ho : o.op = .call { callee := .builtin .append, args := #[s, x], argTypes := #[24, 24] }) (hv : a.eval s = .slice none 0 0) (A : Option Addr) (c : Nat) (l : List Cd) (hx : a.eval x = .slice A l.length c)
    (base B : Nat) (hs : Cs w B A l) (hl : l.length ≤ 1000) (hbase : base ≤ w.heap.size)
    (h : ∀ v' w', w'.ownsRow base 23 6 v' l.length (cc l) → w.grownBy w' none → K (a.put o.dst v') w') : if Region.wanted o (yielded ops a.tmps) = true then Oper.wp Tryd.prog o a w K Q else E := by
  have hw : Region.wanted o (yielded ops a.tmps) = true := by simp [Region.wanted, hgd]
  rw [if_pos hw]
  obtain ⟨v', w', hr, h2, h3⟩ := run_app6 w base o.type B A c l hs hl hbase
  unfold Oper.wp execOp
  simp only [ho, resolve, invoke, builtin, Sem.run_bind, Sem.run_pure, Result.andThen_ok, List.map_toArray, List.map_cons, List.map_nil, hv, hx, hr]
  exact h v' w' h2 h3

/-- 'append(row, y)' as a step of a region that draws. -/
theorem step_one6 {ops : Array Oper} {o : Oper} {a : Act} {w : World} {K : Act → World → Prop} {Q : Exit → Act → World → Prop} {E : Prop} (hgd : o.guard = none) (s x : Operand)
    (ho : o.op = .call { callee := .builtin .append, args := #[s, x], argTypes := #[24, 24] }) (v : Value) (hv : a.eval s = v) (l : List Cd) (base : Nat) (hown : w.ownsRow base 23 6 v l.length (cc l))
    (G : Nat) (hx : a.eval x = .slice (some ⟨G, 0, none⟩) 1 1) (y : Cd) (hy : Cb w G y.u y.s y.k y.h y.n y.t) (hl : l.length ≤ 1000) (hbase : base ≤ w.heap.size)
    (h : ∀ g cap w', Cs w' w'.heap.size (some ⟨g, 0, none⟩) (l ++ [y]) → Below base w w' → K (a.put o.dst (.slice (some ⟨g, 0, none⟩) (l.length + 1) cap)) w') : if Region.wanted o (yielded ops a.tmps) = true then Oper.wp Tryd.prog o a w K Q else E := by
  obtain ⟨i0, hi, hz0, hz1, hz2⟩ := info_parts info23
  refine step_append_lies w hgd s x 24 ho base 23 i0 _ 6 56 Tryd.underlying24 hi hz0 hz1 hz2 rfl (by decide) v l.length (cc l) hv hown ⟨G, 0, none⟩ 1 1 (cc [y]) hx rfl ?_ (cc_one [y]) (by decide) (by unfold maxLen; omega) (by omega) hbase w.heap.size rfl ?_
  · intro j u hu
    obtain ⟨q0, q1, q2, q3, q4, q5⟩ := hy
    rw [Addr.add_lit]
    refine cc_read (b := G) [y] 0 (fun i x hx => ?_) j u hu
    match i, hx with
    | 0, hx => simp at hx; subst hx; exact ⟨q0, q1, q2, q3, q4, q5⟩
    | i + 1, hx => simp at hx
  · intro g cap w' own' grow' _ _
    refine h g cap w' (own_cs (base := base) (cap := cap) ?_) ((Below.refl _ _).grown grow' hbase (fun q hq => (hown.lt q hq).1))
    rw [List.length_append, cc_append]
    exact own'

theorem long (u s k h n u' s' k' h' n' : Int) (t t' : ByteArray) (A : Option Addr) (c : Nat) (l : List Cd) (w : World) (hN : Nd w) (hl : (100 : Int) < (l.length : Int)) : Calls Tryd.prog 7 #[cv u s k h n t, .slice A l.length c, cv u' s' k' h' n' t'] w (UpPost w) := by
  go_enter Tryd.func7, Tryd.ntmps7
  go_wp2_with fail
  have BW : Below w.heap.size w ((w.alloc (.cells #[.int .i64 u, .int .i64 s, .int .i64 k, .int .i64 h, .int .i64 n, .string t] 23)).alloc (.cells #[.int .i64 u', .int .i64 s', .int .i64 k', .int .i64 h', .int .i64 n', .string t'] 23)) := ((Below.refl _ _).alloc (Nat.le_refl _) _).alloc (by simp) _
  have Z0 : ((w.alloc (.cells #[.int .i64 u, .int .i64 s, .int .i64 k, .int .i64 h, .int .i64 n, .string t] 23)).alloc (.cells #[.int .i64 u', .int .i64 s', .int .i64 k', .int .i64 h', .int .i64 n', .string t'] 23)).heap.size = w.heap.size + 1 + 1 := by simp
  have C0 : Cb ((w.alloc (.cells #[.int .i64 u, .int .i64 s, .int .i64 k, .int .i64 h, .int .i64 n, .string t] 23)).alloc (.cells #[.int .i64 u', .int .i64 s', .int .i64 k', .int .i64 h', .int .i64 n', .string t'] 23)) w.heap.size u s k h n t := (cb_new w u s k h n t).on ((Below.refl _ _).alloc (Nat.le_refl _) _) (by simp)
  have D0 : Cb ((w.alloc (.cells #[.int .i64 u, .int .i64 s, .int .i64 k, .int .i64 h, .int .i64 n, .string t] 23)).alloc (.cells #[.int .i64 u', .int .i64 s', .int .i64 k', .int .i64 h', .int .i64 n', .string t'] 23)) (w.heap.size + 1) u' s' k' h' n' t' := by
    have := cb_new (w.alloc (.cells #[.int .i64 u, .int .i64 s, .int .i64 k, .int .i64 h, .int .i64 n, .string t] 23)) u' s' k' h' n' t'
    rw [show (w.alloc (.cells #[.int .i64 u, .int .i64 s, .int .i64 k, .int .i64 h, .int .i64 n, .string t] 23)).heap.size = w.heap.size + 1 by simp] at this
    exact this
  have N0 := hN.on BW
  generalize ((w.alloc (.cells #[.int .i64 u, .int .i64 s, .int .i64 k, .int .i64 h, .int .i64 n, .string t] 23)).alloc (.cells #[.int .i64 u', .int .i64 s', .int .i64 k', .int .i64 h', .int .i64 n', .string t'] 23)) = W0 at *
  refine (awake_any W0 N0).mono ?_
  rintro e w1 ⟨rfl, B1⟩
  have q1 := B1.size
  have N1 := N0.on B1
  have CA := C0.on B1 (by omega)
  have DA := D0.on B1 (by omega)
  go_wp2
  go_ret
  exact ⟨rfl, BW.trans (B1.mono BW.size)⟩

set_option maxHeartbeats 4000000 in
theorem rest (f : Cd → Bool) (u s k h n u' s' k' h' n' : Int) (t t' : ByteArray) (A : Option Addr) (c : Nat) (l : List Cd) (w : World) (hN : Nd w) (hl : ¬ (100 : Int) < (l.length : Int)) (hs : Cs w w.heap.size A l)
    (HI : ∀ y W, Nd W → Hid (Calls Tryd.prog 10 #[cv u s k h n t, cv y.u y.s y.k y.h y.n y.t] W (BoolPost W (f y))))
    (HA : ∀ A c l W, l.length ≤ 1000 → Nd W → Cs W W.heap.size A l → Hid (Calls Tryd.prog 12 #[cv u s k h n t, .slice A l.length c] W (BoolPost W (l.any f)))) :
    Calls Tryd.prog 7 #[cv u s k h n t, .slice A l.length c, cv u' s' k' h' n' t'] w (UpPost w) := by
  go_enter Tryd.func7, Tryd.ntmps7
  go_wp2_with fail
  have BW : Below w.heap.size w ((w.alloc (.cells #[.int .i64 u, .int .i64 s, .int .i64 k, .int .i64 h, .int .i64 n, .string t] 23)).alloc (.cells #[.int .i64 u', .int .i64 s', .int .i64 k', .int .i64 h', .int .i64 n', .string t'] 23)) := ((Below.refl _ _).alloc (Nat.le_refl _) _).alloc (by simp) _
  have Z0 : ((w.alloc (.cells #[.int .i64 u, .int .i64 s, .int .i64 k, .int .i64 h, .int .i64 n, .string t] 23)).alloc (.cells #[.int .i64 u', .int .i64 s', .int .i64 k', .int .i64 h', .int .i64 n', .string t'] 23)).heap.size = w.heap.size + 1 + 1 := by simp
  have C0 : Cb ((w.alloc (.cells #[.int .i64 u, .int .i64 s, .int .i64 k, .int .i64 h, .int .i64 n, .string t] 23)).alloc (.cells #[.int .i64 u', .int .i64 s', .int .i64 k', .int .i64 h', .int .i64 n', .string t'] 23)) w.heap.size u s k h n t := (cb_new w u s k h n t).on ((Below.refl _ _).alloc (Nat.le_refl _) _) (by simp)
  have D0 : Cb ((w.alloc (.cells #[.int .i64 u, .int .i64 s, .int .i64 k, .int .i64 h, .int .i64 n, .string t] 23)).alloc (.cells #[.int .i64 u', .int .i64 s', .int .i64 k', .int .i64 h', .int .i64 n', .string t'] 23)) (w.heap.size + 1) u' s' k' h' n' t' := by
    have := cb_new (w.alloc (.cells #[.int .i64 u, .int .i64 s, .int .i64 k, .int .i64 h, .int .i64 n, .string t] 23)) u' s' k' h' n' t'
    rw [show (w.alloc (.cells #[.int .i64 u, .int .i64 s, .int .i64 k, .int .i64 h, .int .i64 n, .string t] 23)).heap.size = w.heap.size + 1 by simp] at this
    exact this
  have N0 := hN.on BW
  generalize ((w.alloc (.cells #[.int .i64 u, .int .i64 s, .int .i64 k, .int .i64 h, .int .i64 n, .string t] 23)).alloc (.cells #[.int .i64 u', .int .i64 s', .int .i64 k', .int .i64 h', .int .i64 n', .string t'] 23)) = W0 at *
  refine (awake_any W0 N0).mono ?_
  rintro e w1 ⟨rfl, B1⟩
  have q1 := B1.size
  have N1 := N0.on B1
  have CA := C0.on B1 (by omega)
  have DA := D0.on B1 (by omega)
  have BE := BW.trans (B1.mono BW.size)
  have HS := Lib.hid ((hs.below BE (Nat.le_refl _)).mono BE.size)
  have hl' : l.length ≤ 100 := by omega
  clear hs B1 C0 D0 N0 hN BW
  go_wp2_with fail
  go_loopw [8, 9] (fun v i wr => ∃ q : Nat, q ≤ l.length ∧ v = .bool ((l.take q).any f) ∧ i = .int .i64 (q : Int) ∧ Below w1.heap.size w1 wr) (fun _ i _ => 1000001 - (intOf i).toNat)
  case atStart => exact ⟨0, Nat.zero_le _, rfl, rfl, Below.refl _ _⟩
  case round =>
    obtain ⟨q, hq, rfl, rfl, hbel⟩ := hrel
    have hsz := hbel.size
    have NR := N1.on hbel
    have SR := (HS.out.below hbel (Nat.le_refl _)).mono hsz
    have C1 := CA.on hbel (by omega)
    have D1 := DA.on hbel (by omega)
    have BX := BE.trans (hbel.mono BE.size)
    by_cases hlt : q < l.length
    · have hlti : (q : Int) < (l.length : Int) := by omega
      rcases SR with rfl | ⟨b, off, rfl, hb, hc⟩
      · simp at hlt
      have HT : Hid ((l.take (q + 1)).any f = ((l.take q).any f || f l[q])) := by
        show _ = _
        rw [List.take_succ_eq_append_getElem hlt, List.any_append]; simp
      obtain ⟨g0, g1, g2, g3, g4, g5⟩ := hc q l[q] (List.getElem?_eq_getElem hlt)
      have HC := HI l[q]
      generalize l[q] = y at *
      obtain ⟨yu, ys, yk, yh, yn, yt⟩ := y
      generalize f ⟨yu, ys, yk, yh, yn, yt⟩ = r at *
      generalize hone : (l.take q).any f = one at *
      clear hone
      clear hc HI HA HS D1 DA CA
      cases one
      · have hz : w.heap.size < wr.heap.size := by omega
        have hz' : b < wr.heap.size := by omega
        have CY : Cr wr b (off + q * 6) yu ys yk yh yn yt := ⟨g0, g1, g2, g3, g4, g5⟩
        have S0 : Cb wr w.heap.size u s k h n t ∧ Cr wr b (off + q * 6) yu ys yk yh yn yt ∧ Below wr.heap.size wr wr := ⟨C1, CY, Below.refl _ _⟩
        have KD : Hid (∀ v, (Cb v w.heap.size u s k h n t ∧ Cr v b (off + q * 6) yu ys yk yh yn yt ∧ Below wr.heap.size wr v) → (Cb v.drew w.heap.size u s k h n t ∧ Cr v.drew b (off + q * 6) yu ys yk yh yn yt ∧ Below wr.heap.size wr v.drew)) := fun v hS => keep4 hz hz' hS ((Below.refl _ _).drew)
        have KS : Hid (∀ v v', Below v.heap.size v v' → (Cb v w.heap.size u s k h n t ∧ Cr v b (off + q * 6) yu ys yk yh yn yt ∧ Below wr.heap.size wr v) → (Cb v' w.heap.size u s k h n t ∧ Cr v' b (off + q * 6) yu ys yk yh yn yt ∧ Below wr.heap.size wr v')) := fun v v' hb hS => keep4 hz hz' hS (hb.mono hS.2.2.size)
        have HC2 : ∀ W, (Cb W w.heap.size u s k h n t ∧ Cr W b (off + q * 6) yu ys yk yh yn yt ∧ Below wr.heap.size wr W) → Hid (Calls Tryd.prog 10 #[cv u s k h n t, cv yu ys yk yh yn yt] W (BoolPost W r)) := fun W hS => HC W (NR.on hS.2.2)
        clear HC NR N1
        obtain ⟨p0, p1, p2, p3, p4, p5⟩ := C1
        go_wp2_with fail
        go_region_held3 (fun v => (v.cell? ⟨w.heap.size, 0, none⟩ = some (.int .i64 u) ∧ v.cell? ⟨w.heap.size, 1, none⟩ = some (.int .i64 s) ∧ v.cell? ⟨w.heap.size, 2, none⟩ = some (.int .i64 k) ∧ v.cell? ⟨w.heap.size, 3, none⟩ = some (.int .i64 h) ∧ v.cell? ⟨w.heap.size, 4, none⟩ = some (.int .i64 n) ∧ v.cell? ⟨w.heap.size, 5, none⟩ = some (.string t)) ∧ (v.cell? ⟨b, off + q * 6, none⟩ = some (.int .i64 yu) ∧ v.cell? ⟨b, off + q * 6 + 1, none⟩ = some (.int .i64 ys) ∧ v.cell? ⟨b, off + q * 6 + 2, none⟩ = some (.int .i64 yk) ∧ v.cell? ⟨b, off + q * 6 + 3, none⟩ = some (.int .i64 yh) ∧ v.cell? ⟨b, off + q * 6 + 4, none⟩ = some (.int .i64 yn) ∧ v.cell? ⟨b, off + q * 6 + 5, none⟩ = some (.string yt)) ∧ Below wr.heap.size wr v)
          (first | (exact S0) | (exact KD.out _ S0) | (refine KS.out _ _ hb1 ?_; exact KD.out _ S0))
          (first | (go_at_call 10; (with_reducible refine (HC2 _ ?_).out.mono ?_); (focus (first | assumption | exact KD.out _ S0)); rintro e w2 ⟨rfl, hb1⟩))
        rename_i hSx
        have B2 := hbel.trans (hSx.2.2.mono hsz)
        go_wp2
        go_roundw
        case rel => exact ⟨q + 1, by omega, by rw [HT.out]; rfl, by go_num, B2⟩
        case measure => simp [intOf]; omega
      · go_wp2_with fail
        go_quiet (fail)
        go_wp2
        go_roundw
        case rel => exact ⟨q + 1, by omega, by rw [HT.out]; rfl, by go_num, below_drewN hbel _⟩
        case measure => simp [intOf]; omega
    · obtain rfl : q = l.length := by omega
      generalize hone : (l.take l.length).any f = one at *
      rw [List.take_length] at hone
      have HP : ∀ W, Nd W → Cs W W.heap.size A l → Hid (Calls Tryd.prog 12 #[cv u s k h n t, .slice A l.length c] W (BoolPost W one)) := fun W h1 h2 => by have := HA A c l W (by omega) h1 h2; rw [hone] at this; exact this
      have HQ : ∀ W A c, Nd W → Cs W W.heap.size A (l ++ [⟨u', s', k', h', n', t'⟩]) → Hid (Calls Tryd.prog 12 #[cv u s k h n t, .slice A (l.length + 1) c] W (BoolPost W (one || f ⟨u', s', k', h', n', t'⟩))) := fun W A c h1 h2 => by
        have := HA A c (l ++ [⟨u', s', k', h', n', t'⟩]) W (by rw [List.length_append, List.length_singleton]; omega) h1 h2
        rw [List.length_append, List.any_append, hone] at this
        simpa using this
      have HJ : ∀ W, Nd W → Hid (Calls Tryd.prog 10 #[cv u s k h n t, cv u' s' k' h' n' t'] W (BoolPost W (f ⟨u', s', k', h', n', t'⟩))) := fun W h1 => HI ⟨u', s', k', h', n', t'⟩ W h1
      generalize f ⟨u', s', k', h', n', t'⟩ = r at *
      have z1 : w.heap.size < wr.heap.size := by omega
      have z2 : w.heap.size + 1 < wr.heap.size := by omega
      have R0 : Below wr.heap.size wr wr.drew := (Below.refl _ _).drew
      have R1 : Below wr.heap.size wr (wr.drew.alloc (.cells #[.int .i64 u', .int .i64 s', .int .i64 k', .int .i64 h', .int .i64 n', .string t'] 23)) := R0.alloc (Nat.le_refl _) _
      have SA : Hid (Cs wr.drew wr.heap.size A l) := SR.below R0 (Nat.le_refl _)
      have SB : Hid (Cs (wr.drew.alloc (.cells #[.int .i64 u', .int .i64 s', .int .i64 k', .int .i64 h', .int .i64 n', .string t'] 23)) wr.heap.size A l) := SR.below R1 (Nat.le_refl _)
      have CN : Hid (Cb (wr.drew.alloc (.cells #[.int .i64 u', .int .i64 s', .int .i64 k', .int .i64 h', .int .i64 n', .string t'] 23)) wr.heap.size u' s' k' h' n' t') := cb_new wr.drew u' s' k' h' n' t'
      have hl3 : l.length ≤ 1000 := by omega
      have ZB : wr.heap.size ≤ (wr.drew.alloc (.cells #[.int .i64 u', .int .i64 s', .int .i64 k', .int .i64 h', .int .i64 n', .string t'] 23)).heap.size := R1.size
      have HR0 := Lib.hid R0
      have HR1 := Lib.hid R1
      have HSR := Lib.hid SR
      have HC1 := Lib.hid C1
      have HD1 := Lib.hid D1
      clear hone HI HA HS CA DA hq hlt R0 R1 SR C1
      obtain ⟨r0, r1, r2, r3, r4, r5⟩ := D1
      go_wp2_with fail
      go_region_law (first
        | (refine step_app6 (w := wr.drew) (by rfl) (.const (.slice none 0 0)) (.tmp 35) (by rfl) (by rfl) A c l (by rfl) wr.heap.size wr.heap.size SA.out hl3 (Nat.le_refl _) ?_; intro v1 w2 own1 grow1; have B2 := HR0.out.grown grow1 (Nat.le_refl _) (by simp); have q2 := B2.size; obtain ⟨r0, r1, r2, r3, r4, r5⟩ := HD1.out.on B2 z2)
        | (refine step_app6 (w := wr.drew.alloc (.cells #[.int .i64 u', .int .i64 s', .int .i64 k', .int .i64 h', .int .i64 n', .string t'] 23)) (by rfl) (.const (.slice none 0 0)) (.tmp 35) (by rfl) (by rfl) A c l (by rfl) wr.heap.size wr.heap.size SB.out hl3 ZB ?_; intro v1 w2 own1 grow1; have B2 := HR1.out.grown grow1 ZB (by simp); have q2 := B2.size; have CG := Lib.hid (CN.out.on (D := wr.heap.size + 1) ((Below.refl _ _).grown grow1 (by simp) (by simp)) (by omega)))
        | (refine step_one6 (w := w2.alloc (.cells #[.int .i64 u', .int .i64 s', .int .i64 k', .int .i64 h', .int .i64 n', .string t'] 23)) (by rfl) (.tmp 36) (.tmp 38) (by rfl) v1 (by rfl) l wr.heap.size (own1.alloc _) w2.heap.size (by rfl) ⟨u', s', k', h', n', t'⟩ (cb_new w2 u' s' k' h' n' t') hl3 (by simp; omega) ?_; intro g cap w4 cs4 b4; have B4 := (B2.alloc q2 (.cells #[.int .i64 u', .int .i64 s', .int .i64 k', .int .i64 h', .int .i64 n', .string t'] 23)).trans b4)
        | (refine step_one6 (w := w2) (by rfl) (.tmp 36) (.tmp 38) (by rfl) v1 (by rfl) l wr.heap.size own1 wr.heap.size (by rfl) ⟨u', s', k', h', n', t'⟩ CG.out hl3 q2 ?_; intro g cap w4 cs4 b4; have B4 := B2.trans b4))
      all_goals clear r0 r1 r2 r3 r4 r5
      all_goals have q4 := B4.size
      all_goals have N4 := NR.on B4
      all_goals have S4 := (HSR.out.below B4 (Nat.le_refl _)).mono B4.size
      all_goals have C4 := HC1.out.on B4 z1
      all_goals have D4 := HD1.out.on B4 z2
      all_goals have BX4 := BX.trans (B4.mono BX.size)
      all_goals obtain ⟨p0, p1, p2, p3, p4, p5⟩ := id C4
      all_goals go_wp2_with fail
      all_goals refine (HP _ N4 S4).out.mono ?_
      all_goals rintro e w5 ⟨rfl, B5⟩
      all_goals have q5 := B5.size
      all_goals have N5 := N4.on B5
      all_goals have S5 := (cs4.below B5 (Nat.le_refl _)).mono B5.size
      all_goals have C5 := C4.on B5 (by omega)
      all_goals have D5 := D4.on B5 (by omega)
      all_goals have BX5 := BX4.trans (B5.mono BX4.size)
      all_goals clear p0 p1 p2 p3 p4 p5
      all_goals obtain ⟨p0, p1, p2, p3, p4, p5⟩ := id C5
      all_goals have HQ5 := HQ w5 (some ⟨g, 0, none⟩) cap N5 S5
      all_goals clear HP HQ cs4 S4 S5 N4 C4 D4 grow1 own1 SA SB CN HSR HC1 HD1 HR0 HR1 B2 b4 B4
      all_goals cases one
      all_goals cases r
      all_goals go_wp2_with fail
      all_goals refine HQ5.out.mono ?_
      all_goals rintro e w6 ⟨rfl, B6⟩
      all_goals have q6 := B6.size
      all_goals have N6 := N5.on B6
      all_goals have BX6 := BX5.trans (B6.mono BX5.size)
      all_goals clear p0 p1 p2 p3 p4 p5
      all_goals obtain ⟨p0, p1, p2, p3, p4, p5⟩ := C5.on B6 (by omega)
      all_goals obtain ⟨r0, r1, r2, r3, r4, r5⟩ := D5.on B6 (by omega)
      all_goals go_wp2_with fail
      all_goals first
        | (refine (HJ _ N6).out.mono ?_; rintro e w7 ⟨rfl, B7⟩; go_wp2; go_ret; exact ⟨rfl, BX6.trans (B7.mono BX6.size)⟩)
        | (go_ret; exact ⟨rfl, BX6⟩)

theorem walk (x0 : Cd) (A1 : Option Addr) (c1 : Nat) (l1 : List Cd) (x2 : Cd) (w : World) (hN : Nd w) (hs : Cs w w.heap.size A1 l1) (hc : l1.length ≤ c1) : Calls Tryd.prog 7 #[cv x0.u x0.s x0.k x0.h x0.n x0.t, .slice A1 l1.length c1, cv x2.u x2.s x2.k x2.h x2.n x2.t] w (UpPost w) := by
  by_cases hl : (100 : Int) < (l1.length : Int)
  · exact long _ _ _ _ _ _ _ _ _ _ _ _ A1 c1 l1 w hN hl
  · exact rest (itf x0) _ _ _ _ _ _ _ _ _ _ _ _ A1 c1 l1 w hN hl hs (fun y W h => itf_any x0 y W h) (fun A c l W hl h h' => any_any x0 A c l W h (by omega) h')

set_option maxRecDepth 100000 in
theorem lifted (os : Os) (started : os.Started) (H : Type) (enc : TypeId × Value → H) :
    ReturnsInHanded {} Tryd.checked os 7 .any (fun w args => (Rows.keysAnySpec.pre enc Tryd.prog Tryd.f7 [] false w args ∧ laidMetH Tryd.prog laid4 w) ∧ sizedMet enc Tryd.prog Tryd.f7 (OpenSpec.ofChange Rows.keysAnySpec) false w args)
      (Rows.keysAnySpec.post enc Tryd.prog Tryd.f7 false true false false) := by
  refine returnsInHanded_of_change_and (C := Tryd.checked) (X := fun w _ => laidMetH Tryd.prog laid4 w) (fun _ _ _ hh h => h.of_heap hh) own started (by kernel_rfl) Tryd.func7
    (ChangeSpec.witness_shaped (enc := enc) (C := Tryd.checked) (os := os) (X := fun w _ => laidMetH Tryd.prog laid4 w) false (World.doorLaid Tryd.prog 18 os) #[.agg #[.int .i64 0, .int .i64 0, .int .i64 0, .int .i64 0, .int .i64 0, .string ⟨#[]⟩], .slice none 0 0, .agg #[.int .i64 0, .int .i64 0, .int .i64 0, .int .i64 0, .int .i64 0, .string ⟨#[]⟩]] 8 rfl (World.shaped_of_RefB (by kernel_rfl) (by kernel_rfl)) (by kernel_rfl) (by kernel_rfl) (by kernel_rfl) (door_met os _)) ?_
  intro W base args ds gs before hval0 hW _ _ hL _
  have hN := nd_of_laid hL
  have hval : ∀ (j : Nat) t v, Tryd.f7.params[j]? = some t → args[j]? = some v → Value.okWide Tryd.prog W .any base t v := hval0
  have hW' := hW
  obtain ⟨p, q, hA0, hV, rfl, hfz, hnd⟩ := hW
  have hA : DataW.TrodAll enc Tryd.prog W 0 (fun _ => true) true Tryd.f7.params.toList args.toList ds p := hA0
  rw [Tryd.params7] at hA hval
  obtain ⟨v0, vs0, d0, ds0, p0, q0, hargs, rfl, rfl, h0, r0⟩ := trodAll_cons hA
  obtain ⟨v1, vs1, d1, ds1, p1, q1, rfl, rfl, rfl, h1, r1⟩ := trodAll_cons r0
  obtain ⟨v2, vs2, d2, ds2, p2, q2, rfl, rfl, rfl, h2, r2⟩ := trodAll_cons r1
  obtain ⟨rfl, rfl, rfl⟩ := trodAll_nil r2
  obtain rfl : args = #[v0, v1, v2] := by cases args; simp_all
  obtain ⟨rfl, rfl⟩ := trodVars_none hV
  have k0' := h0
  have lt0 : ∀ x ∈ p0, x.block < W.heap.size := by obtain ⟨m, hm⟩ := k0'; exact DataW.trod_lt m _ _ _ hm
  obtain ⟨x0, rfl⟩ := open_cmd (hval 0 23 v0 rfl rfl) h0
  have k1' := h1
  have lt1 : ∀ x ∈ p1, x.block < W.heap.size := by obtain ⟨m, hm⟩ := k1'; exact DataW.trod_lt m _ _ _ hm
  obtain ⟨A1, c1, l1, rfl, s1', m1⟩ := open_cmds (hval 1 24 v1 rfl rfl) h1
  have k2' := h2
  have lt2 : ∀ x ∈ p2, x.block < W.heap.size := by obtain ⟨m, hm⟩ := k2'; exact DataW.trod_lt m _ _ _ hm
  obtain ⟨x2, rfl⟩ := open_cmd (hval 2 23 v2 rfl rfl) h2
  clear hA0 hval0
  refine (walk x0 A1 c1 l1 x2 W hN  s1' m1 ).mono fun e W' ⟨he, bel⟩ => ?_
  subst he
  exact ⟨_, rfl, _, _, _, [], _, [], hW', trodAll_mk1 (shut_bool Tryd.underlying4 _), (trodAll_cons_mk (Below.trod laidOut (by kernel_rfl) (of_decide_eq_true (by kernel_rfl)) k0' bel lt0) (trodAll_cons_mk (Below.trod laidOut (by kernel_rfl) (of_decide_eq_true (by kernel_rfl)) k1' bel lt1) (trodAll_cons_mk (Below.trod laidOut (by kernel_rfl) (of_decide_eq_true (by kernel_rfl)) k2' bel lt2) trodAll_mk0))), rfl, bel.frame _, fun h => by cases h⟩

theorem over : Rows.KeysAnySaid :=
  OpenClaim.holds_of_wide 7 Tryd.f7 rfl rfl rfl rfl rfl rfl rfl ⟨rfl, rfl, rfl, rfl, rfl⟩ rfl rfl rfl rfl rfl (by kernel_rfl) Tryd.func7 (by kernel_rfl)
    (of_decide_eq_true (by kernel_rfl)) (by unfold Func.isWrapper; first | (rw [if_pos (by decide +kernel)]; kernel_rfl) | (rw [if_neg (by decide +kernel)]; exact ⟨rfl, rfl⟩))
    (fun os started H enc _ => lifted os started H enc)

theorem proved : Rows.KeysAnyCardSaid :=
  Claim7.holds_tied_plain_at .later [] [.data] true (true, "bf996c1659db8f8bd19cd74e829fb44e501c00b08f30b8180ae3fe74fe87094c") false
    over (fun _ h => by cases h) (by kernel_rfl) (fun _ h => by cases h) keysAny_row_tie rfl ⟨rfl, rfl⟩ (by kernel_rfl) rfl
    (fun f fn hf hfn => by
      obtain rfl : f = 7 := Option.some.inj ((show Tryd.prog.funcNamed "colloquy/colloquylaw05.KeysAny" = some 7 by kernel_rfl).symm.trans hf) |>.symm
      obtain rfl : fn = Tryd.f7 := (Option.some.inj (Tryd.func7.symm.trans hfn)).symm
      exact ⟨by kernel_rfl, fun j t ht => by
        rw [Tryd.params7] at ht
        have hm : t ∈ [23, 24, 23] := by simpa using Array.mem_of_getElem? ht
        have hall : ([23, 24, 23].all fun u => !Tryd.prog.wantsStandIn u) = true := by kernel_rfl
        exact (show Tryd.prog.wantsStandIn t = false by simpa using List.all_eq_true.1 hall t hm)⟩)
    (by kernel_rfl)
#print axioms proved
end Go.Proofs.YtdpjkbhofebdiaaDoor.keysAny
