/-
  The walk of index's forget: what was known of an instance is gone from both maps. Conditions: the maps are there, and read as what is known; the instance is of numbers that an int holds.
-/
import Derived.Test.YtmeklhlojogdnaaDoorTmk
import Derived.Test.YtmeklhlojogdnaaDoorWf
namespace Go.Proofs.YtmeklhlojogdnaaDoor
open Go.RowKit
open Go.ChangeMaps (setBlock)
set_option linter.unusedVariables false

/-- Without the instance i under the first p keys of l. -/
def gcut (g : Ky → Int × Int → Option Int) (l : List Ky) (i : Int × Int) (p : Nat) : Ky → Int × Int → Option Int := fun x j => if x ∈ l.take p ∧ j = i then none else g x j
theorem gcut_zero (g : Ky → Int × Int → Option Int) (l : List Ky) (i : Int × Int) : gcut g l i 0 = g := by funext x j; simp [gcut]
theorem gcut_succ (g : Ky → Int × Int → Option Int) (l : List Ky) (i : Int × Int) {p : Nat} (hp : p < l.length) : gdel (gcut g l i p) l[p] i = gcut g l i (p + 1) := by
  funext x j
  simp only [gdel, gcut, List.take_succ_eq_append_getElem hp, List.mem_append, List.mem_singleton]
  by_cases h1 : x = l[p]
  · by_cases h2 : j = i
    · rw [if_pos ⟨h1, h2⟩, if_pos ⟨.inr h1, h2⟩]
    · rw [if_neg (fun h => h2 h.2), if_neg (fun h => h2 h.2), if_neg (fun h => h2 h.2)]
  · rw [if_neg (fun h => h1 h.1)]
    by_cases h2 : x ∈ l.take p ∧ j = i
    · rw [if_pos h2, if_pos ⟨.inl h2.1, h2.2⟩]
    · rw [if_neg h2, if_neg (fun h => h2 ⟨h.1.resolve_right h1, h.2⟩)]
theorem gcut_at (g : Ky → Int × Int → Option Int) (l : List Ky) (i : Int × Int) {p : Nat} (hp : p < l.length) (hs : ∀ (p q : Nat) (a : Ky), l[p]? = some a → l[q]? = some a → p = q) : gcut g l i p l[p] i = g l[p] i := by
  simp only [gcut]
  refine if_neg (fun h => ?_)
  obtain ⟨j, hj⟩ := List.getElem?_of_mem h.1
  rw [List.getElem?_take] at hj
  split at hj
  · rename_i hlt
    have := hs j p _ hj (List.getElem?_eq_getElem hp)
    omega
  · cases hj
theorem gcut_all (g : Ky → Int × Int → Option Int) (l : List Ky) (i : Int × Int) (h : ∀ a, (∃ q, g a i = some q) ↔ a ∈ l) : gcut g l i l.length = fun x j => if j = i then none else g x j := by
  funext x j
  simp only [gcut, List.take_length]
  by_cases h2 : j = i
  · subst h2
    rw [if_pos rfl]
    by_cases h1 : x ∈ l
    · rw [if_pos ⟨h1, rfl⟩]
    · rw [if_neg (fun h => h1 h.1)]
      cases hg : g x j with
      | none => rfl
      | some q => exact absurd ((h x).1 ⟨q, hg⟩) h1
  · rw [if_neg (fun h => h2 h.2), if_neg h2]

theorem Tm.setK {w : World} {O : Nat → Prop} {K T : Nat} {g : Ky → Int × Int → Option Int} (h : Tm w O K T g) (hKT : K ≠ T) (o : Obj) : Tm (setBlock w.drew K o) O K T g := by
  obtain ⟨ft, ct, hm, ha, hin⟩ := h
  refine ⟨ft, ct, by rw [set_other o (fun e => hKT e.symm)]; exact hm, fun a => ?_, hin⟩
  rcases ha a with h1 | ⟨b, c, h1, h2, h3, h4, h5⟩
  · exact .inl h1
  · exact .inr ⟨b, c, h1, h2, h3, h4, by rw [set_other o h3]; exact h5⟩

def FgPost (w : World) (O : Nat → Prop) (X K T : Nat) (n : Int) (i : Int × Int) (L : List Kn) (g : Ky → Int × Int → Option Int) (e : Ending) (w' : World) : Prop :=
  e = .returned (.tuple #[]) ∧ Off O w w' ∧ Xb w' X n (some K) (some T) ∧ Km w' O K (L.filter (fun x => decide (x.i ≠ i))) ∧ Tm w' O K T (fun x j => if j = i then none else g x j)

theorem Off.ib {O : Nat → Prop} {w w' : World} {B : Nat} {x y : Int} (h : At.Ib w B x y) (hb : Off O w w') (hB : ¬ O B) : At.Ib w' B x y := by
  have hlt : B < w.heap.size := World.block_lt_of_cell? w _ h.1
  have hc : ∀ j, w'.cell? ⟨B, j, none⟩ = w.cell? ⟨B, j, none⟩ := fun j => World.cell?_of_block (hb.block B hlt hB)
  exact ⟨(hc 0).trans h.1, (hc 1).trans h.2⟩
theorem Off.kb {O : Nat → Prop} {w w' : World} {B : Nat} {a c : Bool} {i : Int} (h : Kb w B a i c) (hb : Off O w w') (hB : ¬ O B) : Kb w' B a i c := by
  have hlt : B < w.heap.size := World.block_lt_of_cell? w _ h.1
  have hc : ∀ j, w'.cell? ⟨B, j, none⟩ = w.cell? ⟨B, j, none⟩ := fun j => World.cell?_of_block (hb.block B hlt hB)
  exact ⟨(hc 0).trans h.1, (hc 1).trans h.2.1, (hc 2).trans h.2.2⟩

set_option maxHeartbeats 2000000 in
theorem forget_any (X K T : Nat) (n : Int) (i : Int × Int) (hi : fits i.1 ∧ fits i.2) (L : List Kn) (g : Ky → Int × Int → Option Int) (O : Nat → Prop) (w : World) (hx : Xb w X n (some K) (some T)) (oX : O X) (oK : O K) (oT : O T) (hKT : K ≠ T)
    (hk : Km w O K L) (ht : Tm w O K T g) (hg : Gq L g) (hlt : ∀ r, O r → r < w.heap.size) (once : L.Pairwise (fun x y => x.i ≠ y.i)) :
    Calls Tryd.prog 30 #[.pointer (some ⟨X, 0, none⟩), iv i] w (FgPost w O X K T n i L g) := by
  obtain ⟨l, A, c, HL, hr, h2, hch, hsep, hfit, oKd, HDK, HKM⟩ := hk.at_ once hi hg
  have GZ := Lib.hid (gcut_all g l i hch)
  have GS := Lib.hid (fun p (hp : p < l.length) => gcut_succ g l i (p := p) hp)
  have GA := Lib.hid (fun p (hp : p < l.length) => (gcut_at g l i (p := p) hp hsep))
  have HIN := Lib.hid (fun (a : Ky) (ha : a ∈ l) => (hch a).2 ha)
  have HFI := Lib.hid hfit
  have HKM' := Lib.hid HKM
  have hXl := hx.lt
  have hKl := hk.lt
  have hTl := ht.lt
  clear HKM hfit hch hsep hg once
  obtain ⟨i1, i2⟩ := i
  have B0 : Below w.heap.size w (w.alloc (.cells #[.int .i64 i1, .int .i64 i2] 26)) := (Below.refl _ _).alloc (Nat.le_refl _) _
  have O0 : Off O w (w.alloc (.cells #[.int .i64 i1, .int .i64 i2] 26)) := Off.of_below B0
  have I0 := At.ib_new w i1 i2
  have X0 := hx.on B0 hXl
  have K0 : (w.alloc (.cells #[.int .i64 i1, .int .i64 i2] 26)).heap[K]? = w.heap[K]? := B0.block K hKl
  have KM0 := hk.keep (fun _ h => h) K0 (fun r cs h _ => B0.block r (hlt r h))
  have TM0 := ht.keep (fun _ h => h) (B0.block T hTl) (fun r h => B0.block r (hlt r h))
  have R0 := hr.keep (O' := O) (fun _ h => h) (fun r cs h _ => B0.block r (hlt r h))
  have hnO : ¬ O w.heap.size := fun h => by have := hlt _ h; omega
  go_enter Tryd.func30, Tryd.ntmps30
  go_wp2_with fail
  generalize (w.alloc (.cells #[.int .i64 i1, .int .i64 i2] 26)) = W0 at *
  obtain ⟨a0, a1⟩ := I0
  have HL0 : (Instr.lookup 52 (.map (some K)) (.agg #[.int .i64 i1, .int .i64 i2]) false).run Tryd.prog W0.drew = .ok (.slice A l.length c) W0.drew := HL W0.drew K0
  have p1 := X0.c1
  go_region
  have B1 : Below w.heap.size w W0.drew := B0.drew
  have O1 : Off O w W0.drew := O0.drew
  have I1 : At.Ib W0.drew w.heap.size i1 i2 := ⟨a0, a1⟩
  have X1 : Xb W0.drew X n (some K) (some T) := X0
  have K1 : W0.drew.heap[K]? = w.heap[K]? := K0
  have TM1 : Tm W0.drew O K T (gcut g l (i1, i2) 0) := by rw [gcut_zero]; exact TM0
  have S1 : w.heap.size < W0.drew.heap.size := World.block_lt_of_cell? W0.drew _ I1.1
  have R1 : ∀ r cs, O r → w.heap[r]? = some (.cells cs 60 (0, 0)) → W0.drew.heap[r]? = w.heap[r]? := fun r cs h _ => B1.block r (hlt r h)
  generalize W0.drew = W1 at *
  clear HL HL0 a0 a1 p1 X0 K0 KM0 TM0 R0 O0 B0 B1
  have HDK' := Lib.hid HDK
  have HLT := Lib.hid hlt
  have HR := Lib.hid hr
  clear HDK hlt hr
  go_wp2_with fail
  go_loopw [13] (fun t wr => ∃ p : Nat, p ≤ l.length ∧ t = .int .i64 (p : Int) ∧ Off O w wr ∧ At.Ib wr w.heap.size i1 i2 ∧ Xb wr X n (some K) (some T) ∧ wr.heap[K]? = w.heap[K]? ∧ Tm wr O K T (gcut g l (i1, i2) p) ∧ w.heap.size < wr.heap.size ∧ (∀ r cs, O r → w.heap[r]? = some (.cells cs 60 (0, 0)) → wr.heap[r]? = w.heap[r]?)) (fun t _ => 3 - (intOf t).toNat)
  case atStart => exact ⟨0, Nat.zero_le _, rfl, O1, I1, X1, K1, TM1, S1, R1⟩
  case round =>
    obtain ⟨p, hp, rfl, hO, hI, hX, hK, hT, hS, hR⟩ := hrel
    clear O1 I1 X1 K1 TM1 S1 R1
    by_cases hlp : p < l.length
    · have hlpi : (p : Int) < (l.length : Int) := by omega
      have h0 : (0 : Int) ≤ (p : Int) := by omega
      rcases (HR.out.keep (w' := wr) (O' := O) (fun _ h => h) hR) with rfl | ⟨r, rfl, hOr, hrow⟩
      · simp at hlp
      obtain ⟨q0, hq0⟩ := HIN.out l[p] (List.getElem_mem hlp)
      have hgq := GA.out p hlp
      rw [hq0] at hgq
      have GN := Lib.hid (GS.out p hlp)
      obtain ⟨b, oB, hbK, hbT, hbl, hrows, HLk, o', c', HD, HLn, HT1, oTd, HDT, HT2⟩ := hT.at_ (HFI.out l[p] (List.getElem_mem hlp)) hi hgq
      obtain ⟨c0, c1, c2⟩ := kc_at l p l[p] (List.getElem?_eq_getElem hlp)
      have e0 : wr.cell? ⟨r, p * 3, none⟩ = some (.bool l[p].a) := by rw [cell_of_row wr r _ _ 60 _ hrow]; simp; exact c0
      have e1 : wr.cell? ⟨r, p * 3 + 1, none⟩ = some (.int .i64 l[p].i) := by rw [cell_of_row wr r _ _ 60 _ hrow]; simp; exact c1
      have e2 : wr.cell? ⟨r, p * 3 + 2, none⟩ = some (.bool l[p].c) := by rw [cell_of_row wr r _ _ 60 _ hrow]; simp; exact c2
      generalize l[p] = y at *
      obtain ⟨ya, yi, yc⟩ := y
      have BV : Below wr.heap.size wr (wr.alloc (.cells #[.bool ya, .int .i64 yi, .bool yc] 60)) := (Below.refl _ _).alloc (Nat.le_refl _) _
      have KV := kb_new wr ya yi yc
      have XV := hX.on BV hX.lt
      have IV := hI.on BV hS
      have hbz : wr.heap.size ≠ b := by omega
      have hbw : w.heap.size ≠ b := fun e => hnO (by rw [e]; exact oB)
      have hTz : wr.heap.size ≠ T := by have := hO.size; omega
      have hTw : w.heap.size ≠ T := by omega
      obtain ⟨hXb, hXT⟩ := hrows X _ _ _ hX
      have OW : ∀ r, O r → r < wr.heap.size := fun r h => Nat.lt_of_lt_of_le (HLT.out r h) hO.size
      have HL4 : (Instr.lookup 53 (.map (some T)) (.agg #[.bool ya, .int .i64 yi, .bool yc]) false).run Tryd.prog (wr.alloc (.cells #[.bool ya, .int .i64 yi, .bool yc] 60)).drew = .ok (.map (some b)) (wr.alloc (.cells #[.bool ya, .int .i64 yi, .bool yc] 60)).drew := HLk _ (BV.block T (OW T oT))
      have HD4 : ∀ ty, (Builtin.delete_ #[61, 26] ty #[.map (some b), .agg #[.int .i64 i1, .int .i64 i2]]).run Tryd.prog (wr.alloc (.cells #[.bool ya, .int .i64 yi, .bool yc] 60)).drew = .ok (.tuple #[]) (setBlock (wr.alloc (.cells #[.bool ya, .int .i64 yi, .bool yc] 60)).drew b o') := fun ty => HD _ ty (BV.block b (OW b oB))
      have BO : ∀ r, r < wr.heap.size → (wr.alloc (.cells #[.bool ya, .int .i64 yi, .bool yc] 60)).drew.heap[r]? = wr.heap[r]? := fun r h => BV.block r h
      have OV : Off O w (wr.alloc (.cells #[.bool ya, .int .i64 yi, .bool yc] 60)).drew := (hO.then BV).drew
      have HLk' := Lib.hid HLk
      have HD' := Lib.hid HD
      have HLn' := Lib.hid HLn
      have HDT' := Lib.hid HDT
      have HT1' := Lib.hid HT1
      have HT2' := Lib.hid HT2
      have BO' := Lib.hid BO
      have OW' := Lib.hid OW
      have HR' := Lib.hid hR
      have HRW := Lib.hid hrows
      clear HLk HD HLn HDT HT1 HT2 BO OW hR hrows hq0 hgq c0 c1 c2 HR
      go_wp2_with fail
      generalize (wr.alloc (.cells #[.bool ya, .int .i64 yi, .bool yc] 60)) = V at *
      obtain ⟨k0, k1, k2⟩ := id KV
      obtain ⟨a0, a1⟩ := id IV
      have x2 := XV.c2
      go_region
      have T2 : (setBlock V.drew b o').heap[T]? = wr.heap[T]? := (set_other o' (fun e => hbT e.symm)).trans (BO'.out T (OW'.out T oT))
      have b2 : (setBlock V.drew b o').heap[b]? = some o' := set_same o' (by have := OW'.out b oB; have h3 : wr.heap.size ≤ V.drew.heap.size := BV.size; omega)
      have X2 : Xb (setBlock V.drew b o') X n (some K) (some T) := (set_other o' hXb).trans XV
      have I2 : At.Ib (setBlock V.drew b o') w.heap.size i1 i2 := ⟨(World.cell?_of_block (set_other o' hbw)).trans a0, (World.cell?_of_block (set_other o' hbw)).trans a1⟩
      have KB2 : Kb (setBlock V.drew b o') wr.heap.size ya yi yc := ⟨(World.cell?_of_block (set_other o' hbz)).trans k0, (World.cell?_of_block (set_other o' hbz)).trans k1, (World.cell?_of_block (set_other o' hbz)).trans k2⟩
      have K2 : (setBlock V.drew b o').heap[K]? = w.heap[K]? := (set_other o' (fun e => hbK e.symm)).trans ((BO'.out K (OW'.out K oK)).trans hK)
      have O2 : Off O w (setBlock V.drew b o') := OV.set oB o'
      have OR2 : ∀ r, O r → r ≠ b → (setBlock V.drew b o').heap[r]? = wr.heap[r]? := fun r h hne => (set_other o' hne).trans (BO'.out r (OW'.out r h))
      have S2 : w.heap.size < (setBlock V.drew b o').heap.size := by rw [size_setBlock]; exact Nat.lt_of_lt_of_le hS BV.size
      have S2' : wr.heap.size ≤ (setBlock V.drew b o').heap.size := by rw [size_setBlock]; exact BV.size
      have HL5 : (Instr.lookup 53 (.map (some T)) (.agg #[.bool ya, .int .i64 yi, .bool yc]) false).run Tryd.prog (setBlock V.drew b o').drew = .ok (.map (some b)) (setBlock V.drew b o').drew := HLk'.out _ T2
      have HN5 : ∀ ty, (Builtin.len_ #[61] ty #[.map (some b)]).run Tryd.prog (setBlock V.drew b o').drew = .ok (.int .i64 (c' : Int)) (setBlock V.drew b o').drew := fun ty => HLn'.out _ ty b2
      have RW2 : ∀ r' cs, O r' → w.heap[r']? = some (.cells cs 60 (0, 0)) → r' ≠ b := fun r' cs h h' e => by
        have h3 := HR'.out r' cs h h'
        rw [h'] at h3
        exact (HRW.out r' _ _ _ h3).1 e
      have RWT : ∀ r' cs, O r' → w.heap[r']? = some (.cells cs 60 (0, 0)) → r' ≠ T := fun r' cs h h' e => by
        have h3 := HR'.out r' cs h h'
        rw [h'] at h3
        exact (HRW.out r' _ _ _ h3).2 e
      have HRb := Lib.hid RW2
      have HRT := Lib.hid RWT
      have HO2 := Lib.hid OR2
      clear HL4 HD4 k0 k1 k2 a0 a1 x2 OV XV IV KV RW2 RWT OR2 BV
      generalize setBlock V.drew b o' = V2 at *
      obtain ⟨k0, k1, k2⟩ := id KB2
      have x2 := X2.c2
      by_cases hc : c' = 0
      · subst hc
        have HN5' : ∀ ty, (Builtin.len_ #[61] ty #[.map (some b)]).run Tryd.prog V2.drew = .ok (.int .i64 0) V2.drew := HN5
        clear HN5
        have HD6 : ∀ ty, (Builtin.delete_ #[53, 60] ty #[.map (some T), .agg #[.bool ya, .int .i64 yi, .bool yc]]).run Tryd.prog V2.drew.drew = .ok (.tuple #[]) (setBlock V2.drew.drew T oTd) := fun ty => HDT'.out _ ty T2
        go_wp2_with fail
        go_region
        go_wp2_with fail
        go_region
        have tl : T < V2.drew.drew.heap.size := Nat.lt_of_lt_of_le (OW'.out T oT) S2'
        have O4 : Off O w (setBlock V2.drew.drew T oTd) := (O2.drew.drew).set oT oTd
        have X4 : Xb (setBlock V2.drew.drew T oTd) X n (some K) (some T) := (set_other oTd hXT).trans X2
        have I4 : At.Ib (setBlock V2.drew.drew T oTd) w.heap.size i1 i2 := ⟨(World.cell?_of_block (set_other oTd hTw)).trans I2.1, (World.cell?_of_block (set_other oTd hTw)).trans I2.2⟩
        have K4 : (setBlock V2.drew.drew T oTd).heap[K]? = w.heap[K]? := (set_other oTd hKT).trans K2
        have T4 : Tm (setBlock V2.drew.drew T oTd) O K T (gcut g l (i1, i2) (p + 1)) := by
          rw [← GN.out]
          exact HT2'.out (by first | rfl | trivial) _ (set_same oTd tl) (fun r h h1 h3 _ => (set_other oTd h1).trans (HO2.out r h h3))
        have S4 : w.heap.size < (setBlock V2.drew.drew T oTd).heap.size := by rw [size_setBlock]; exact S2
        have R4 : ∀ r cs, O r → w.heap[r]? = some (.cells cs 60 (0, 0)) → (setBlock V2.drew.drew T oTd).heap[r]? = w.heap[r]? := fun r cs h h' => (set_other oTd (HRT.out r cs h h')).trans ((HO2.out r h (HRb.out r cs h h')).trans (HR'.out r cs h h'))
        clear HD6 HL5 HN5' x2 k0 k1 k2
        generalize setBlock V2.drew.drew T oTd = V4 at *
        go_wp2
        go_roundw
        case rel => exact ⟨p + 1, by omega, by go_num, O4, I4, X4, K4, T4, S4, R4⟩
        case measure => simp [intOf]; omega
      · have hc' : ¬ ((c' : Int) = 0) := by omega
        go_wp2_with fail
        go_region
        have T4 : Tm V2.drew O K T (gcut g l (i1, i2) (p + 1)) := by
          rw [← GN.out]
          exact HT1'.out V2.drew T2 b2 (fun r h h1 h3 _ => HO2.out r h h3)
        have O4 := O2.drew
        have R4 : ∀ r cs, O r → w.heap[r]? = some (.cells cs 60 (0, 0)) → V2.drew.heap[r]? = w.heap[r]? := fun r cs h h' => (HO2.out r h (HRb.out r cs h h')).trans (HR'.out r cs h h')
        have X4 : Xb V2.drew X n (some K) (some T) := X2
        have I4 : At.Ib V2.drew w.heap.size i1 i2 := I2
        have K4 : V2.drew.heap[K]? = w.heap[K]? := K2
        have S4 : w.heap.size < V2.drew.heap.size := S2
        clear HL5 HN5 x2 k0 k1 k2
        generalize V2.drew = V4 at *
        go_wp2
        go_roundw
        case rel => exact ⟨p + 1, by omega, by go_num, O4, I4, X4, K4, T4, S4, R4⟩
        case measure => simp [intOf]; omega
    · obtain rfl : p = l.length := by omega
      have HDD : ∀ ty, (Builtin.delete_ #[52, 26] ty #[.map (some K), .agg #[.int .i64 i1, .int .i64 i2]]).run Tryd.prog wr.drew = .ok (.tuple #[]) (setBlock wr.drew K oKd) := fun ty => HDK'.out _ ty hK
      obtain ⟨a0, a1⟩ := id hI
      have x1 := hX.c1
      have hXK : X ≠ K := fun e => by
        obtain ⟨fk, hmo, _⟩ := hk
        have h3 : w.heap[X]? = some _ := hx
        exact mo_row hmo h3 e
      have hRK : ∀ r cs, O r → w.heap[r]? = some (.cells cs 60 (0, 0)) → r ≠ K := fun r cs _ h' => by
        obtain ⟨fk, hmo, _⟩ := hk
        exact mo_row hmo h'
      have HRK := Lib.hid hRK
      have HR' := Lib.hid hR
      clear hRK hR HR
      go_wp2_with fail
      go_region
      have tl : K < wr.drew.heap.size := Nat.lt_trans hKl hS
      have O4 : Off O w (setBlock wr.drew K oKd) := (hO.drew).set oK oKd
      have X4 : Xb (setBlock wr.drew K oKd) X n (some K) (some T) := (set_other oKd hXK).trans hX
      have KM4 := HKM'.out (setBlock wr.drew K oKd) (set_same oKd tl) (fun r cs h h' => (set_other oKd (HRK.out r cs h h')).trans (HR'.out r cs h h'))
      have T4 : Tm (setBlock wr.drew K oKd) O K T (fun x j => if j = (i1, i2) then none else g x j) := by
        rw [← GZ.out]
        refine Tm.setK hT hKT oKd
      clear HDD
      generalize setBlock wr.drew K oKd = V4 at *
      go_wp2
      go_end0
      exact ⟨rfl, O4, X4, KM4, T4⟩
end Go.Proofs.YtmeklhlojogdnaaDoor
