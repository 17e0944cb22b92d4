/-
  Rows of reports that a call has of its own, read as a list; the walk of the document's Count. Conditions: at most 200 reports.
-/
import Derived.Test.YtgmfjoegfbaebaaRgSm
import Derived.OwnWalk
namespace Go.Proofs.Ytgmfjoegfbaebaa.Rg
open Go.RowKit In
set_option linter.unusedVariables false

theorem info44 : (Try.prog.info? 44).map (fun i => (i.zero, i.size, i.bytes)) = some (some (.agg #[.int .i64 0, .int .i64 0, .int .i64 0, .int .i64 0, .int .i64 0, .int .i64 0, .int .i64 0, .int .i64 0, .int .i64 0, .int .i64 0, .int .i64 0, .string ⟨#[]⟩, .int .i64 0, .slice none 0 0]), 14, 136) := by kernel_rfl
def rls : List Rp → List Value
  | [] => []
  | x :: l => rpc x ++ rls l
theorem rls_len : ∀ l, (rls l).length = l.length * 14
  | [] => rfl
  | x :: l => by
    show (rpc x ++ rls l).length = _
    rw [List.length_append, rls_len l]
    simp
    omega
theorem rls_append : ∀ l m, rls (l ++ m) = rls l ++ rls m
  | [], m => rfl
  | x :: l, m => by
    show rpc x ++ rls (l ++ m) = (rpc x ++ rls l) ++ rls m
    rw [rls_append l m, List.append_assoc]
theorem rls_snoc (l : List Rp) (x : Rp) : rls (l ++ [x]) = rls l ++ rpc x := by
  rw [rls_append]
  show rls l ++ (rpc x ++ []) = _
  rw [List.append_nil]
theorem rpc_one (x : Rp) : ∀ u ∈ rpc x, u.oneCell' = true := by
  intro u hu
  simp only [List.mem_cons, List.not_mem_nil, or_false] at hu
  rcases hu with rfl | rfl | rfl | rfl | rfl | rfl | rfl | rfl | rfl | rfl | rfl | rfl | rfl | rfl <;> rfl
theorem rls_one : ∀ l, ∀ u ∈ rls l, u.oneCell' = true
  | [], u, h => by cases h
  | x :: l, u, h => by
    rcases List.mem_append.1 (show u ∈ rpc x ++ rls l from h) with h | h
    · exact rpc_one x u h
    · exact rls_one l u h
theorem rls_at : ∀ (l : List Rp) (i : Nat) (x : Rp) (j : Nat), l[i]? = some x → j < 14 → (rls l)[i * 14 + j]? = (rpc x)[j]?
  | [], i, x, j, h, _ => by simp at h
  | y :: l, 0, x, j, h, hj => by
    obtain rfl : y = x := by simpa using h
    show (rpc y ++ rls l)[0 * 14 + j]? = _
    rw [Nat.zero_mul, Nat.zero_add, List.getElem?_append_left (by simpa using hj)]
  | y :: l, i + 1, x, j, h, hj => by
    have h' : l[i]? = some x := by simpa using h
    show (rpc y ++ rls l)[(i + 1) * 14 + j]? = _
    rw [List.getElem?_append_right (by simp; omega)]
    rw [← rls_at l i x j h' hj]
    congr 1
    simp
    omega
theorem rls_read {w : World} {b : Nat} : ∀ (l : List Rp) (off : Nat) (hc : ∀ j x, l[j]? = some x → Rq w b (off + j * 14) x) (j : Nat) (u : Value), (rls l)[j]? = some u → w.cell? ⟨b, off + j, none⟩ = some u := by
  intro l off hc j u hu
  have hj : j < l.length * 14 := by rw [← rls_len]; exact (List.getElem?_eq_some_iff.1 hu).1
  have hi : j / 14 < l.length := by omega
  have hx := List.getElem?_eq_getElem hi
  have hq := hc (j / 14) _ hx
  have hm : j % 14 < 14 := Nat.mod_lt _ (by omega)
  have ha := rls_at l (j / 14) _ (j % 14) hx hm
  rw [show j / 14 * 14 + j % 14 = j by omega, hu] at ha
  have hoff : off + j = off + j / 14 * 14 + j % 14 := by omega
  rw [hoff]
  generalize l[j / 14] = x at *
  generalize j % 14 = m at *
  obtain ⟨c0, c1, c2, c3, c4, c5, c6, c7, c8, c9, c10, c11, c12, c13⟩ := hq
  match m, hm, ha with
  | 0, _, ha => rw [ha]; exact c0
  | 1, _, ha => rw [ha]; exact c1
  | 2, _, ha => rw [ha]; exact c2
  | 3, _, ha => rw [ha]; exact c3
  | 4, _, ha => rw [ha]; exact c4
  | 5, _, ha => rw [ha]; exact c5
  | 6, _, ha => rw [ha]; exact c6
  | 7, _, ha => rw [ha]; exact c7
  | 8, _, ha => rw [ha]; exact c8
  | 9, _, ha => rw [ha]; exact c9
  | 10, _, ha => rw [ha]; exact c10
  | 11, _, ha => rw [ha]; exact c11
  | 12, _, ha => rw [ha]; exact c12
  | 13, _, ha => rw [ha]; exact c13

/-- A row of reports of the call's own is a slice that reads as their list. -/
theorem own_ls {w : World} {base : Nat} {v : Value} {l : List Rp} (h : w.ownsRow base 44 14 v l.length (rls l)) (n₀ : Nat) (hd : ∀ x ∈ l, At.Sl w n₀ .i64 x.A x.r.xs) (hn : n₀ ≤ w.heap.size) : ∃ A c, v = .slice A l.length c ∧ Ls w w.heap.size A l ∧ l.length ≤ c := by
  rcases h.2 with ⟨rfl, h0⟩ | ⟨g, cap, cur, rfl, hg, hh, hnc, hcp, hcs, htake⟩
  · exact ⟨none, 0, by rw [h0], .inl (List.length_eq_zero_iff.1 h0), by omega⟩
  · refine ⟨_, cap, rfl, .inr ⟨g, 0, rfl, lt_of_block hh, fun i x hi => ⟨?_, (hd x (List.mem_of_getElem? hi)).mono hn⟩⟩, hnc⟩
    have hil : i < l.length := (List.getElem?_eq_some_iff.1 hi).1
    have hc (j : Nat) (hj : j < 14) (u : Value) (hu : (rpc x)[j]? = some u) : w.cell? ⟨g, 0 + i * 14 + j, none⟩ = some u := by
      rw [Nat.zero_add, h.cellAt (i * 14 + j) (by omega), rls_at l i x j hi hj]
      exact hu
    exact ⟨hc 0 (by omega) _ rfl, hc 1 (by omega) _ rfl, hc 2 (by omega) _ rfl, hc 3 (by omega) _ rfl, hc 4 (by omega) _ rfl, hc 5 (by omega) _ rfl, hc 6 (by omega) _ rfl, hc 7 (by omega) _ rfl, hc 8 (by omega) _ rfl, hc 9 (by omega) _ rfl, hc 10 (by omega) _ rfl, hc 11 (by omega) _ rfl, hc 12 (by omega) _ rfl, hc 13 (by omega) _ rfl⟩
theorem rep_cells (W : World) (x : Rp) : ∀ j u, (rpc x)[j]? = some u → (W.alloc (.cells #[.int .i64 x.f, .int .i64 x.r.st, .int .i64 x.r.pn, .int .i64 x.r.pb, .int .i64 x.r.vn, .int .i64 x.r.vb, .int .i64 x.r.u, .int .i64 x.r.s, .int .i64 x.r.k, .int .i64 x.r.h, .int .i64 x.r.n, .string x.r.t, .int .i64 x.r.q, .slice x.A x.r.xs.length x.c] 44)).cell? ((⟨W.heap.size, 0, none⟩ : Addr).add j) = some u := by
  intro j u hu
  rw [Addr.add_lit]
  have hj : j < 14 := by simpa using (List.getElem?_eq_some_iff.1 hu).1
  match j, hj, hu with
  | 0, _, hu => simp at hu; subst hu; simp
  | 1, _, hu => simp at hu; subst hu; simp
  | 2, _, hu => simp at hu; subst hu; simp
  | 3, _, hu => simp at hu; subst hu; simp
  | 4, _, hu => simp at hu; subst hu; simp
  | 5, _, hu => simp at hu; subst hu; simp
  | 6, _, hu => simp at hu; subst hu; simp
  | 7, _, hu => simp at hu; subst hu; simp
  | 8, _, hu => simp at hu; subst hu; simp
  | 9, _, hu => simp at hu; subst hu; simp
  | 10, _, hu => simp at hu; subst hu; simp
  | 11, _, hu => simp at hu; subst hu; simp
  | 12, _, hu => simp at hu; subst hu; simp
  | 13, _, hu => simp at hu; subst hu; simp

/-- What the document's Count gave. -/
def CtPost (w : World) (l : List Rp) (e : Ending) (w' : World) : Prop := ∃ A c, e = .returned (.slice A l.length c) ∧ Ls w' w'.heap.size A l ∧ Below w.heap.size w w'
theorem own_below {w w' : World} {base : Nat} {e : TypeId} {size n : Nat} {v : Value} {xs : List Value} (h : w.ownsRow base e size v n xs) (hb : Below w.heap.size w w') : w'.ownsRow base e size v n xs := h.kept (grown_none hb) (by simp; exact Classical.em _)
theorem fd_none {l : List Rp} {i : Nat} (h : ∀ j, (h : j < l.length) → l[j].f ≠ (i : Int) + 1) : fd l i = none := by
  rw [← fda_val, fnd_none h]
  rfl

set_option maxHeartbeats 1600000 in
theorem rCount_any (n : Int) (A : Option Addr) (c : Nat) (L : List Rp) (hl : L.length ≤ 200) (w : World) (hs : Ls w w.heap.size A L) :
    Calls Try.prog 25 #[.int .i64 n, .slice A L.length c] w (CtPost w (ct L (am n))) := by
  obtain ⟨i0, hi, hz0, hz1, hz2⟩ := info_parts info44
  have HN : ∀ V, Hid (Calls Try.prog 29 #[.int .i64 n] V (IntP V (am n))) := fun V => rbound_any n V
  have h7 := am_le n
  generalize am n = m at *
  have HS := Lib.hid hs
  clear hs
  go_enter Try.func25, Try.ntmps25
  go_wp2
  go_loopw [5, 6] (fun v t wr => ∃ (k : Nat) (v0 : Value), v0 = v ∧ k ≤ m ∧ t = .int .i64 ((k : Int) + 1) ∧ wr.ownsRow w.heap.size 44 14 v0 (ct L k).length (rls (ct L k)) ∧ Below w.heap.size w wr) (fun _ t _ => 9 - (intOf t).toNat)
  case atStart => exact ⟨0, _, rfl, Nat.zero_le _, rfl, World.ownsRow_nil _ _ _ _, Below.refl _ _⟩
  case round =>
    obtain ⟨k, v0, rfl, hk, rfl, hown, hbel⟩ := hrel
    go_wp2_with fail
    refine (HN _).out.mono ?_
    rintro e w2 ⟨rfl, b2⟩
    have own2 := own_below hown b2
    have B2 := hbel.trans (b2.mono hbel.size)
    clear hown hbel b2
    by_cases hlt : k < m
    · have hki : (k : Int) + 1 ≤ (m : Int) := by omega
      go_wp2
      go_loopw [5, 7] (fun v t wr => ∃ i : Nat, v0 = v ∧ i ≤ L.length ∧ t = .int .i64 (i : Int) ∧ wr.ownsRow w.heap.size 44 14 v0 (ct L k).length (rls (ct L k)) ∧ Below w.heap.size w wr ∧ ∀ j, (h : j < L.length) → j < i → L[j].f ≠ (k : Int) + 1) (fun _ t _ => 201 - (intOf t).toNat)
      case atStart => exact ⟨0, rfl, Nat.zero_le _, rfl, own2, B2, fun j _ h => absurd h (Nat.not_lt_zero _)⟩
      case round =>
        obtain ⟨i, rfl, hi1, rfl, own3, B3, hno⟩ := hrel
        have HNO := Lib.hid hno
        clear hno own2 B2
        by_cases hil : i < L.length
        · have hili : (i : Int) < (L.length : Int) := by omega
          have hil0 : (0 : Int) ≤ (i : Int) := by omega
          have HT : Hid (L[i].f ≠ (k : Int) + 1 → ∀ j, (h : j < L.length) → j < i + 1 → L[j].f ≠ (k : Int) + 1) := Lib.hid (fun hne j hj hjk => by
            rcases Nat.lt_or_ge j i with h | h
            · exact HNO.out j hj h
            · obtain rfl : j = i := by omega
              exact hne)
          have HE : Hid (L[i].f = (k : Int) + 1 → ct L (k + 1) = ct L k ++ [L[i]]) := Lib.hid (fun he => by
            rw [ct_succ, fd_at hil he (fun j hj => HNO.out j (by omega) hj)]
            rfl)
          obtain ⟨b, off, hA, hb, hq, hx⟩ := (HS.out.below B3).at_ hil
          generalize L[i] = x at *
          obtain ⟨q0, q1, q2, q3, q4, q5, q6, q7, q8, q9, q10, q11, q12, q13⟩ := id hq
          subst hA
          have hsz := B3.size
          obtain ⟨xf, xr, xA, xc⟩ := x
          dsimp only at q0 q1 q2 q3 q4 q5 q6 q7 q8 q9 q10 q11 q12 q13 HT HE hx hq
          have hct := ct_len L k
          by_cases hf : (k : Int) + 1 = xf
          · subst hf
            have E9 := Lib.hid (HE.out rfl)
            clear HT HE
            go_wp2_with (at_builtin; refine wpList_append_own _ rfl (.tmp 27) (.tmp 32) 22 rfl w.heap.size 44 i0 (.agg #[.int .i64 0, .int .i64 0, .int .i64 0, .int .i64 0, .int .i64 0, .int .i64 0, .int .i64 0, .int .i64 0, .int .i64 0, .int .i64 0, .int .i64 0, .string ⟨#[]⟩, .int .i64 0, .slice none 0 0]) 14 136 Try.underlying22 hi hz0 hz1 hz2 rfl (by decide) _ (ct L k).length (rls (ct L k)) rfl (own3.alloc _) ⟨wr.heap.size, 0, none⟩ 1 1 (rpc ⟨(k : Int) + 1, xr, xA, xc⟩) rfl rfl (rep_cells wr ⟨(k : Int) + 1, xr, xA, xc⟩) (rpc_one _) (by unfold maxLen; omega) (by omega) (by simp; omega) ?_; intro v3 w3 hown3 hgrow3 _)
            go_roundw
            case rel =>
              have al := (Below.refl wr.heap.size wr).alloc (Nat.le_refl _) (.cells (rpc ⟨(k : Int) + 1, xr, xA, xc⟩).toArray 44)
              refine ⟨k + 1, v3, rfl, by omega, by go_num, ?_, ?_⟩
              · rw [E9.out, rls_snoc, List.length_append]
                exact hown3
              · exact (B3.trans (al.mono hsz)).grown hgrow3 (by simp; omega) (fun q hq => (own3.lt q hq).1)
            case measure => simp [intOf]; omega
          · have N9 := Lib.hid (HT.out (fun e => hf e.symm))
            clear HT HE
            have hf2 : (xf == (k : Int) + 1) = false := by rw [beq_eq_false_iff_ne]; exact fun e => hf e.symm
            have hf3 : ¬ xf = (k : Int) + 1 := fun e => hf e.symm
            clear hf
            go_wp2
            go_roundw
            case rel => exact ⟨i + 1, rfl, by omega, by go_num, own3, B3, N9.out⟩
            case measure => simp [intOf]; omega
        · obtain rfl : i = L.length := by omega
          have E9 : Hid (ct L (k + 1) = ct L k) := by
            refine Lib.hid ?_
            rw [ct_succ, fd_none (fun j hj => HNO.out j hj hj)]
            simp
          go_wp2
          go_roundw
          case rel => exact ⟨k + 1, v0, rfl, by omega, by go_num, by rw [E9.out]; exact own3, B3⟩
          case measure => simp [intOf]; omega
    · obtain rfl : k = m := by omega
      go_wp2
      go_ret
      obtain ⟨A9, c9, rfl, h9, _⟩ := own_ls own2 w.heap.size (fun x hx => (HS.out.below B2).of (ct_mem hx)) B2.size
      exact ⟨A9, c9, rfl, h9, B2⟩

end Go.Proofs.Ytgmfjoegfbaebaa.Rg
