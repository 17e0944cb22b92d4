/-
  The walks of the closure that tells whether a part is free, and of slices.IndexFunc with it. Conditions: at most 1000 things and parts.
-/
import Derived.Test.YtnfjfpiijikniaaDl
namespace Go.Proofs.Ytnfjfpiijikniaa.Gp
open Go.RowKit Go.Shelf
set_option linter.unusedVariables false

/-- The closure's world: the graph, what was told, the homes. -/
structure Fw (w : World) (n : Nat) (b : Nat) (R : Nat → Nat) (G : Nat → Nat → Bool) (gb tb hb tr hr : Nat) (told : Nat → Bool) (hm : Nat → Nat) : Prop where
  bg : Boxed w gb 40 (.slice (some ⟨b, 0, none⟩) n n)
  bt : Boxed w tb 38 (.slice (some ⟨tr, 0, none⟩) n n)
  bh : Boxed w hb 29 (.slice (some ⟨hr, 0, none⟩) n n)
  gr : Gr w b R n G
  rt : Br w tr told n
  rh : Tb w hr 3 (fun x => .int .i64 (hm x : Int)) n
theorem Fw.up {w w' : World} {n b : Nat} {R : Nat → Nat} {G : Nat → Nat → Bool} {gb tb hb tr hr : Nat} {told : Nat → Bool} {hm : Nat → Nat} (h : Fw w n b R G gb tb hb tr hr told hm) (hb' : Below w.heap.size w w') : Fw w' n b R G gb tb hb tr hr told hm :=
  ⟨(hb'.block gb h.bg.lt).trans h.bg, (hb'.block tb h.bt.lt).trans h.bt, (hb'.block hb h.bh.lt).trans h.bh, h.gr.up hb', Tb.on h.rt hb' (Tb.lt h.rt), Tb.on h.rh hb' (Tb.lt h.rh)⟩

/-- Nothing that this thing waits for is left over, by homes. -/
def Hf (n : Nat) (G : Nat → Nat → Bool) (told : Nat → Bool) (hm : Nat → Nat) (h : Nat) (x k : Nat) : Prop := ∀ y, y < k → G x y = true → told y = true ∨ hm y = h

set_option maxRecDepth 100000 in
set_option maxHeartbeats 4000000 in
theorem free_any (n b : Nat) (R : Nat → Nat) (G : Nat → Nat → Bool) (gb tb hb tr hr : Nat) (told : Nat → Bool) (hm : Nat → Nat) (hn : n ≤ 1000) (v : Value) (p : List Nat) (hp : p ≠ []) (hpn : ∀ x ∈ p, x < n) (hpl : p.length ≤ 1000) (r : Bool) (hr2 : r = true ↔ ∀ x, x ∈ p → Hf n G told hm (hd p) x n)
    (w : World) (hF : Fw w n b R G gb tb hb tr hr told hm) (hv : Ir w v p) : Calls Try.prog 31 #[v, .pointer (some ⟨gb, 0, none⟩), .pointer (some ⟨tb, 0, none⟩), .pointer (some ⟨hb, 0, none⟩)] w (BoolPost w r) := by
  obtain ⟨g, c, cur, rfl, hh, hcur⟩ := id hv
  have HF := Lib.hid hF
  have HV := Lib.hid hv
  have HR := Lib.hid hr2
  have HP := Lib.hid hpn
  have hp0 : 0 < p.length := List.length_pos_iff.2 hp
  have hpi : (0 : Int) < (p.length : Int) := by omega
  have hhd : Hid (p[0]? = some (hd p)) := by
    show _ = _
    cases p with
    | nil => simp at hp0
    | cons x p => simp [hd]
  clear hF hv hr2 hpn hh hcur
  go_enter Try.func31, Try.ntmps31
  go_wp2
  go_loopg [12] p.length (fun q t W => ∃ k : Nat, k + q = p.length ∧ t = .int .i64 (k : Int) ∧ Below w.heap.size w W ∧ Hid (∀ i x, i < k → p[i]? = some x → Hf n G told hm (hd p) x n))
  case atStart => exact ⟨0, by omega, rfl, Below.refl _ _, fun i x h => by omega⟩
  case round =>
    obtain ⟨k, hk, rfl, hbel, hyes⟩ := hrel
    have F := HF.out.up hbel
    by_cases hlt : k < p.length
    · have hki : (k : Int) < (p.length : Int) := by omega
      have hk0 : (0 : Int) ≤ (k : Int) := by omega
      have hvk : Ir wr (.slice (some ⟨g, 0, none⟩) p.length c) p := HV.out.ut (Ut.of_below hbel)
      have cx := hvk.cell (List.getElem?_eq_getElem hlt)
      have hxn := HP.out p[k] (List.getElem_mem hlt)
      have HX : Hid (p[k]? = some p[k]) := List.getElem?_eq_getElem hlt
      generalize p[k] = x at *
      have hxi : (x : Int) < (n : Int) := by omega
      have hx0 : (0 : Int) ≤ (x : Int) := by omega
      have cg := F.bg.cell
      have chx := F.gr.hcell hxn
      have HB := Lib.hid hbel
      clear hbel hvk
      go_wp2
      go_loopg [21] n (fun q t W => ∃ j : Nat, j + q = n ∧ t = .int .i64 (j : Int) ∧ Below wr.heap.size wr W ∧ Hid (Hf n G told hm (hd p) x j))
      case atStart => exact ⟨0, by omega, rfl, Below.refl _ _, fun y h => by omega⟩
      case round =>
        obtain ⟨j, hj, rfl, hbel, hyj⟩ := hrel
        have F2 := F.up hbel
        by_cases hjt : j < n
        · have hji : (j : Int) < (n : Int) := by omega
          have hj0 : (0 : Int) ≤ (j : Int) := by omega
          have c1 := F2.gr.cell hxn hjt
          have HNX : Hid ((G x j = true → told j = true ∨ hm j = hd p) → Hf n G told hm (hd p) x (j + 1)) := fun e y hy hG => by
            rcases Nat.lt_or_ge y j with h | h
            · exact hyj.out y h hG
            · obtain rfl : y = j := by omega
              exact e hG
          rcases hGv : G x j with _ | _
          · rw [hGv] at c1
            have HY := Lib.hid (HNX.out (fun h => by rw [hGv] at h; cases h))
            clear hGv HNX
            go_wp2
            go_quiet (fail)
            go_wp2
            go_roundg (n - (j + 1))
            case measure => omega
            case rel => exact ⟨j + 1, by omega, by go_num, below_drewN hbel _, HY.out⟩
          · rw [hGv] at c1
            have ct := F2.bt.cell
            have c2 := F2.rt.cell hjt
            rcases htv : told j with _ | _
            · rw [htv] at c2
              have ch := F2.bh.cell
              have c3 : wr.cell? ⟨hr, j, none⟩ = some (.int .i64 (hm j : Int)) := F2.rh.cell hjt
              have hvk : Ir wr (.slice (some ⟨g, 0, none⟩) p.length c) p := HV.out.ut (Ut.of_below (HB.out.trans (hbel.mono HB.out.size)))
              have c4 := hvk.cell hhd.out
              have HNO : Hid (hm j ≠ hd p → r = false) := fun e => by
                rcases hrr : r with _ | _
                · rfl
                · rcases HR.out.1 hrr x (List.mem_of_getElem? HX.out) j hjt hGv with h | h
                  · rw [htv] at h; cases h
                  · exact absurd h e
              have HYS : Hid (hm j = hd p → Hf n G told hm (hd p) x (j + 1)) := fun e => HNX.out fun _ => .inr e
              clear hvk hGv htv HNX
              by_cases he : hm j = hd p
              · have HY := Lib.hid (HYS.out he)
                have he2 : ((hm j : Int) != (hd p : Int)) = false := by simp [he]
                clear HYS HNO he
                generalize (hm j : Int) = u1 at *
                generalize (hd p : Int) = u2 at *
                go_wp2
                go_quiet (fail)
                go_wp2
                go_roundg (n - (j + 1))
                case measure => omega
                case rel => exact ⟨j + 1, by omega, by go_num, below_drewN hbel _, HY.out⟩
              · obtain rfl := HNO.out he
                have he2 : ((hm j : Int) != (hd p : Int)) = true := by simpa using (fun e : (hm j : Int) = (hd p : Int) => he (by omega))
                have hB := HB.out.trans (hbel.mono HB.out.size)
                clear HYS HNO he
                generalize (hm j : Int) = u1 at *
                generalize (hd p : Int) = u2 at *
                go_wp2
                go_quiet (fail)
                go_wp2
                go_ret
                exact ⟨rfl, below_drewN hB _⟩
            · rw [htv] at c2
              have HY := Lib.hid (HNX.out (fun h => .inl htv))
              clear hGv htv HNX
              go_wp2
              go_quiet (fail)
              go_wp2
              go_roundg (n - (j + 1))
              case measure => omega
              case rel => exact ⟨j + 1, by omega, by go_num, below_drewN hbel _, HY.out⟩
        · obtain rfl : j = n := by omega
          have hB := HB.out.trans (hbel.mono HB.out.size)
          have HY : Hid (∀ i x, i < k + 1 → p[i]? = some x → Hf j G told hm (hd p) x j) := fun i y hi hy => by
            rcases Nat.lt_or_ge i k with h | h
            · exact hyes.out i y h hy
            · obtain rfl : i = k := by omega
              rw [HX.out] at hy
              cases hy
              exact hyj.out
          go_wp2
          go_roundg (p.length - (k + 1))
          case measure => omega
          case rel => exact ⟨k + 1, by omega, by go_num, hB, HY.out⟩
    · obtain rfl : k = p.length := by omega
      have HP2 : Hid (r = true) := HR.out.2 fun x hx => by
        obtain ⟨i, hi⟩ := List.getElem?_of_mem hx
        exact hyes.out i x (List.getElem?_eq_some_iff.1 hi).1 hi
      obtain rfl := HP2.out
      go_wp2
      go_ret
      exact ⟨rfl, hbel⟩

end Go.Proofs.Ytnfjfpiijikniaa.Gp
