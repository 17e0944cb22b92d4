/-
  Who is told all at once, and who is told some first; who waits for another one that does not wait for it. No program's function is walked here. No conditions.
-/
import Derived.Test.YtgpciipemgljcaaGreatGae
import Derived.Test.YtgpciipemgljcaaGreatGal
import Derived.IntWalk
import Derived.Test.YtgpciipemgljcaaGreatGab
import Derived.Lib.SmallJoins
import Derived.Deep.SlicePairs
import Derived.Deep.Slices
import Derived.Deep.Grids
import Derived.OpenShut
import Derived.ShutString
import Derived.ChangeOld
namespace Go.Proofs.YtgpciipemgljcaaGreat.Od
open Go.Proofs.YtgpciipemgljcaaGreat.Gp (Rt Out Ot cmp mem_cmp cmp_rises)
set_option linter.unusedVariables false

/-- The same as Rn, node by node. -/
inductive Rp (r : List No) (x : No) : No → Prop
  | refl : x ∈ r → Rp r x x
  | step {y z : No} : Rp r x y → z ∈ r → wa y z.i = true → Rp r x z
theorem Rp.left {r : List No} {x y : No} (h : Rp r x y) : x ∈ r := by
  induction h with
  | refl h => exact h
  | step _ _ _ ih => exact ih
theorem Rp.right {r : List No} {x y : No} (h : Rp r x y) : y ∈ r := by
  cases h with
  | refl h => exact h
  | step _ h _ => exact h
theorem rn_rp {r : List No} {x y : No} : Rn r x y ↔ Rp r x y := by
  constructor
  · rintro ⟨a, b, ha, hb, hr⟩
    refine hr.stays (fun b => ∀ y, r[b]? = some y → Rp r x y) (fun y hy => ?_) ?_ y hb
    · rw [ha] at hy
      cases hy
      exact .refl (List.mem_of_getElem? ha)
    · rintro b c hP ⟨u, v, hu, hv, hw⟩ z hz
      rw [hv] at hz
      cases hz
      exact (hP u hu).step (List.mem_of_getElem? hv) hw
  · intro h
    induction h with
    | refl h =>
      obtain ⟨a, ha⟩ := List.getElem?_of_mem h
      exact ⟨a, a, ha, ha, .refl⟩
    | step _ hz hw ih =>
      obtain ⟨a, b, ha, hb, hr⟩ := ih
      obtain ⟨c, hc⟩ := List.getElem?_of_mem hz
      exact ⟨a, c, ha, hc, hr.step ⟨_, _, hb, hc, hw⟩⟩
theorem Rp.mono {r s : List No} (hs : ∀ n ∈ r, n ∈ s) {x y : No} (h : Rp r x y) : Rp s x y := by
  induction h with
  | refl h => exact .refl (hs _ h)
  | step _ hz hw ih => exact ih.step (hs _ hz) hw
/-- From a closed list nothing leads away. -/
theorem Rp.stays {r s : List No} (hc : ∀ u ∈ s, ∀ v ∈ r, wa u v.i = true → v ∈ s) {x y : No} (h : Rp r x y) (hx : x ∈ s) : Rp s x y := by
  induction h with
  | refl _ => exact .refl hx
  | step _ hz hw ih => exact ih.step (hc _ ih.right _ hz hw) hw
/-- What leads to where a closed list does not reach never meets it. -/
theorem Rp.apart {r s t : List No} (hc : ∀ u ∈ s, ∀ v ∈ r, wa u v.i = true → v ∈ s) (hst : ∀ n ∈ r, n ∈ s ∨ n ∈ t) {x y : No} (h : Rp r x y) : y ∉ s → Rp t x y := by
  induction h with
  | refl h => intro hy; exact .refl ((hst _ h).resolve_left hy)
  | step _ hz hw ih =>
    intro hn
    have hy : _ ∉ s := fun k => hn (hc _ k _ hz hw)
    exact (ih hy).step ((hst _ hz).resolve_left hn) hw

theorem ors_in {l : List No} {D o : List Is} (hd : Di l) (hO : Ors (rd (cs l D) D) o) {n : No} (hn : n ∈ l) (ho : n.i ∈ o) : n ∈ rd (cs l D) D := by
  obtain ⟨x, hx, e⟩ := (hO.mem n.i).1 ho
  rwa [← hd.one (cs_in (rd_in hx)) hn e]
theorem Ors.nodup {r : List No} {o : List Is} (h : Ors r o) : o.Nodup := by
  rw [List.Nodup, List.pairwise_iff_getElem]
  intro i j hi hj hij e
  have := h.one i j o[i] (List.getElem?_eq_getElem hi) (by rw [List.getElem?_eq_getElem hj, e])
  omega
theorem len_eq {a b : List Is} (ha : a.Nodup) (hb : b.Nodup) (h : ∀ x, x ∈ a ↔ x ∈ b) : a.length = b.length :=
  Nat.le_antisymm (ha.length_le_of_subset fun x hx => (h x).1 hx) (hb.length_le_of_subset fun x hx => (h x).2 hx)

section
variable {l s : List No} {o1 o2 o3 : List Is} (h7 : F7 l) (hl : l.length ≤ 100) (hd : Di l) (hsl : ∀ n ∈ s, n ∈ l)
  (h1 : Ors (rd (cs l []) []) o1) (h2 : Ors (rd (cs s []) []) o2) (h3 : Ors (rd (cs l o2) o2) o3)

theorem agree_in (hl : l.length ≤ 100) (hd : Di l) (D : List Is) {n : No} : n ∈ cs l D ↔ n ∈ l ∧ nr n = true ∧ n.i ∉ D := mem_cs_di (fun x hx y hy e => hd.one hx hy e) hl
include h7 hl hd hsl h2 in
theorem agree_sets : (∀ n ∈ rd (cs s []) [], n ∈ rd (cs l []) []) ∧ (∀ n ∈ rd (cs l o2) o2, n ∈ rd (cs l []) []) ∧ (∀ n ∈ rd (cs l []) [], n ∈ rd (cs s []) [] ∨ n ∈ rd (cs l o2) o2) ∧ (∀ n ∈ rd (cs s []) [], n ∉ rd (cs l o2) o2) := by
  have h7s : F7 s := fun n hn => h7 n (hsl n hn)
  have z1 := rd_cz (D := []) (h7.cs [])
  have z2 := rd_cz (D := []) (h7s.cs [])
  have z3 := rd_cz (D := o2) (h7.cs o2)
  have c2 : ∀ n ∈ cs s [], n ∈ cs l [] := fun n hn => (agree_in hl hd []).2 ⟨hsl n (cs_in hn), cs_nr hn, by simp⟩
  have c3 : ∀ n ∈ cs l o2, n ∈ cs l [] := fun n hn => (agree_in hl hd []).2 ⟨cs_in hn, cs_nr hn, by simp⟩
  have one1 : ∀ x ∈ cs l [], ∀ y ∈ cs l [], x.i = y.i → x = y := fun x hx y hy e => cs_inj hx hy e
  have a : ∀ n ∈ rd (cs s []) [], n ∈ rd (cs l []) [] := fun n hn => rd_of_cz (h7.cs []) one1 (T := (· ∈ rd (cs s []) [])) ⟨fun x hx => c2 x (rd_in hx), z2.shut⟩ (by simp) hn
  have b : ∀ n ∈ rd (cs l o2) o2, n ∈ rd (cs l []) [] := fun n hn => rd_of_cz (h7.cs []) one1 (T := fun x => x ∈ rd (cs s []) [] ∨ x ∈ rd (cs l o2) o2)
    ⟨fun x hx => hx.elim (fun h => c2 x (rd_in h)) (fun h => c3 x (rd_in h)), fun x hx i hw => by
      rcases hx with hx | hx
      · rcases z2.shut x hx i hw with h | ⟨y, hy, e⟩
        · simp at h
        · exact .inr ⟨y, .inl hy, e⟩
      · rcases z3.shut x hx i hw with h | ⟨y, hy, e⟩
        · obtain ⟨y, hy, e⟩ := (h2.mem i).1 h
          exact .inr ⟨y, .inl hy, e⟩
        · exact .inr ⟨y, .inr hy, e⟩⟩ (by simp) (.inr hn)
  refine ⟨a, b, fun n hn => ?_, fun n hn hn3 => cs_new (rd_in hn3) ((h2.mem n.i).2 ⟨n, hn, rfl⟩)⟩
  by_cases hn2 : n ∈ rd (cs s []) []
  · exact .inl hn2
  · refine .inr (rd_of_cz (h7.cs o2) (fun x hx y hy e => cs_inj hx hy e) (T := fun x => x ∈ rd (cs l []) [] ∧ x ∉ rd (cs s []) []) ⟨fun x hx => ?_, fun x hx i hw => ?_⟩ (fun x hx => cs_new hx) ⟨hn, hn2⟩)
    · refine (agree_in hl hd o2).2 ⟨cs_in (rd_in hx.1), cs_nr (rd_in hx.1), fun ho => ?_⟩
      obtain ⟨y, hy, e⟩ := (h2.mem x.i).1 ho
      have := hd.one (hsl y (cs_in (rd_in hy))) (cs_in (rd_in hx.1)) e
      exact hx.2 (this ▸ hy)
    · rcases z1.shut x hx.1 i hw with h | ⟨y, hy, e⟩
      · simp at h
      · by_cases hy2 : y ∈ rd (cs s []) []
        · exact .inl ((h2.mem i).2 ⟨y, hy2, e⟩)
        · exact .inr ⟨y, ⟨hy, hy2⟩, e⟩

include h7 hl hd hsl h1 h2 h3 in
theorem agree_mem : ∀ i, i ∈ o1 ↔ i ∈ o2 ++ o3 := fun i => by
  obtain ⟨a, b, c, _⟩ := agree_sets h7 hl hd hsl h2
  rw [List.mem_append, h1.mem, h2.mem, h3.mem]
  constructor
  · rintro ⟨n, hn, e⟩
    exact (c n hn).imp (fun h => ⟨n, h, e⟩) (fun h => ⟨n, h, e⟩)
  · rintro (⟨n, hn, e⟩ | ⟨n, hn, e⟩)
    · exact ⟨n, a n hn, e⟩
    · exact ⟨n, b n hn, e⟩
include h7 hl hd hsl h2 h3 in
theorem agree_nodup : (o2 ++ o3).Nodup := by
  obtain ⟨a, b, c, d⟩ := agree_sets h7 hl hd hsl h2
  rw [List.nodup_append]
  refine ⟨h2.nodup, h3.nodup, fun x hx y hy e => ?_⟩
  subst e
  obtain ⟨n, hn, e⟩ := (h2.mem x).1 hx
  obtain ⟨n', hn', e'⟩ := (h3.mem x).1 hy
  have := hd.one (hsl n (cs_in (rd_in hn))) (cs_in (rd_in hn')) (e.trans e'.symm)
  exact d n hn (this ▸ hn')
include h7 hl hd hsl h1 h2 h3 in
theorem agree_len : o1.length = (o2 ++ o3).length := len_eq h1.nodup (agree_nodup h7 hl hd hsl h2 h3) (agree_mem h7 hl hd hsl h1 h2 h3)

theorem nd_at {o : List Is} (h : o.Nodup) {a b : Nat} {i : Is} (ha : o[a]? = some i) (hb : o[b]? = some i) : a = b := by
  obtain ⟨h1, rfl⟩ := List.getElem?_eq_some_iff.1 ha
  obtain ⟨h2, e⟩ := List.getElem?_eq_some_iff.1 hb
  rw [List.Nodup, List.pairwise_iff_getElem] at h
  rcases Nat.lt_trichotomy a b with hl | k | hl
  · exact absurd e.symm (h a b h1 h2 hl)
  · exact k
  · exact absurd e (h b a h2 h1 hl)

include h7 hl hd hsl h1 h2 h3 in
theorem agree_order {x y : No} (hx : x ∈ l) (hy : y ∈ l) (hn : x.i ≠ y.i) (hw : wa x y.i = true) {p q p' q' : Nat} (hp : o1[p]? = some x.i) (hq : o1[q]? = some y.i) (hp' : (o2 ++ o3)[p']? = some x.i) (hq' : (o2 ++ o3)[q']? = some y.i) : p < q ↔ p' < q' := by
  obtain ⟨a, b, c, d⟩ := agree_sets h7 hl hd hsl h2
  have hnd := agree_nodup h7 hl hd hsl h2 h3
  have x1 := ors_in hd h1 hx (List.mem_of_getElem? hp)
  have y1 := ors_in hd h1 hy (List.mem_of_getElem? hq)
  have h7s : F7 s := fun n hn => h7 n (hsl n hn)
  have cl : ∀ u ∈ rd (cs s []) [], ∀ v ∈ rd (cs l []) [], wa u v.i = true → v ∈ rd (cs s []) [] := fun u hu v hv hw => by
    rcases (rd_cz (D := []) (h7s.cs [])).shut u hu v.i hw with h | ⟨z, hz, e⟩
    · simp at h
    · rwa [← hd.one (hsl z (cs_in (rd_in hz))) (cs_in (rd_in hv)) e]
  have in2 : ∀ {z : No} {k : Nat}, z ∈ rd (cs s []) [] → (o2 ++ o3)[k]? = some z.i → o2[k]? = some z.i := fun {z k} hz hk => by
    obtain ⟨j, hj⟩ := List.getElem?_of_mem ((h2.mem z.i).2 ⟨z, hz, rfl⟩)
    have : (o2 ++ o3)[j]? = some z.i := by rw [List.getElem?_append_left (List.getElem?_eq_some_iff.1 hj).1]; exact hj
    rw [nd_at hnd hk this]; exact hj
  have in3 : ∀ {z : No} {k : Nat}, z ∈ rd (cs l o2) o2 → (o2 ++ o3)[k]? = some z.i → o2.length ≤ k ∧ o3[k - o2.length]? = some z.i := fun {z k} hz hk => by
    obtain ⟨j, hj⟩ := List.getElem?_of_mem ((h3.mem z.i).2 ⟨z, hz, rfl⟩)
    have : (o2 ++ o3)[o2.length + j]? = some z.i := by rw [List.getElem?_append_right (by omega), Nat.add_sub_cancel_left]; exact hj
    have e := nd_at hnd hk this
    exact ⟨by omega, by rw [e, Nat.add_sub_cancel_left]; exact hj⟩
  have lt2 : ∀ {z : No} {k : Nat}, o2[k]? = some z.i → k < o2.length := fun h => (List.getElem?_eq_some_iff.1 h).1
  have xy1 : Rp (rd (cs l []) []) x y := (Rp.refl x1).step y1 hw
  by_cases hm : Rp (rd (cs l []) []) y x
  · have L1 := h1.les x x1 y y1 p q hp hq hn (rn_rp.2 xy1) (rn_rp.2 hm)
    by_cases x2 : x ∈ rd (cs s []) []
    · have k1 := xy1.stays cl x2
      have k2 := hm.stays cl k1.right
      have := h2.les x x2 y k1.right p' q' (in2 x2 hp') (in2 k1.right hq') hn (rn_rp.2 k1) (rn_rp.2 k2)
      rw [L1, this]
    · have y2 : y ∉ rd (cs s []) [] := fun k => x2 (hm.stays cl k).right
      have k1 := xy1.apart cl c y2
      have k2 := hm.apart cl c x2
      obtain ⟨e1, e2⟩ := in3 k1.left hp'
      obtain ⟨e3, e4⟩ := in3 k2.left hq'
      have := h3.les x k1.left y k2.left _ _ e2 e4 hn (rn_rp.2 k1) (rn_rp.2 k2)
      rw [L1, ← this]
      omega
  · have L1 := h1.fst x x1 y y1 p q hp hq hn hw (fun k => hm (rn_rp.1 k))
    have L2 : q' < p' := by
      by_cases x2 : x ∈ rd (cs s []) []
      · have y2 := cl x x2 y y1 hw
        exact h2.fst x x2 y y2 p' q' (in2 x2 hp') (in2 y2 hq') hn hw (fun k => hm ((rn_rp.1 k).mono a))
      · have x3 := (c x x1).resolve_left x2
        obtain ⟨e1, e2⟩ := in3 x3 hp'
        by_cases y2 : y ∈ rd (cs s []) []
        · have := lt2 (z := y) (in2 y2 hq')
          omega
        · have y3 := (c y y1).resolve_left y2
          obtain ⟨e3, e4⟩ := in3 y3 hq'
          have := h3.fst x x3 y y3 _ _ e2 e4 hn hw (fun k => hm ((rn_rp.1 k).mono b))
          omega
    omega
end

theorem behind_law {l : List No} {o : List Is} (h7 : F7 l) (hd : Di l) (hO : Ors (rd (cs l []) []) o) {i k : Nat} {x y : No} (hx : l[i]? = some x) (hy : l[k]? = some y) (hw : wa x y.i = true) {p : Nat} (hp : o[p]? = some x.i) :
    ∃ q : Nat, o[q]? = some y.i ∧ (¬ Rt (Wg l) k i → q < p) ∧ (Rt (Wg l) k i → i ≠ k → (p < q ↔ ls x y = true)) := by
  have hxl := List.mem_of_getElem? hx
  have hyl := List.mem_of_getElem? hy
  have hxr := ors_in hd hO hxl (List.mem_of_getElem? hp)
  have hyo : y.i ∈ o := by
    rcases (waits_law h7 hd hO hxl (List.mem_of_getElem? hp)).2.2.2 y hw with h | h
    · simp at h
    · exact h
  have hyr := ors_in hd hO hyl hyo
  have idx : ∀ {a b : Nat} {z u : No}, l[a]? = some z → l[b]? = some u → z.i = u.i → a = b := fun {a b z u} ha hb e => by
    have h := hd
    unfold Di at h
    exact nd_at h (a := a) (b := b) (i := z.i) (by rw [List.getElem?_map, ha]; rfl) (by rw [List.getElem?_map, hb, e]; rfl)
  have hrl : ∀ n ∈ rd (cs l []) [], n ∈ l := fun n hn => cs_in (rd_in hn)
  have cl : ∀ u ∈ rd (cs l []) [], ∀ v ∈ l, wa u v.i = true → v ∈ rd (cs l []) [] := fun u hu v hv hw => by
    rcases (rd_cz (D := []) (h7.cs [])).shut u hu v.i hw with h | ⟨z, hz, e⟩
    · simp at h
    · rwa [← hd.one (hrl z hz) hv e]
  obtain ⟨q, hq⟩ := List.getElem?_of_mem hyo
  have key : Rt (Wg l) k i ↔ Rn (rd (cs l []) []) y x := by
    rw [rn_rp]
    constructor
    · intro h
      exact (rn_rp.1 (⟨k, i, hy, hx, h⟩ : Rn l y x)).stays cl hyr
    · intro h
      obtain ⟨a, b, ha, hb, hr⟩ := rn_rp.2 (h.mono hrl)
      rw [idx hy ha rfl, idx hx hb rfl]
      exact hr
  refine ⟨q, hq, fun h => ?_, fun h hne => ?_⟩
  · refine hO.fst x hxr y hyr p q hp hq (fun e => h ?_) hw (fun k => h (key.2 k))
    rw [idx hx hy e]
    exact .refl
  · exact hO.les x hxr y hyr p q hp hq (fun e => hne (idx hx hy e)) (rn_rp.2 ((Rp.refl hxr).step hyr hw)) (key.1 h)
end Go.Proofs.YtgpciipemgljcaaGreat.Od

/-
  The walk of the law OrderTold. No conditions but what can be read.
-/
namespace Go.Proofs.YtgpciipemgljcaaGreat.Od
open Go.RowKit
set_option linter.unusedVariables false
attribute [local go_sem ↓ high] eq25 guard25 neq25 guard25n

theorem cs_len (l : List No) (D : List Is) : (cs l D).length ≤ l.length := by
  have hn : (cs l D).Nodup := List.Pairwise.imp (fun {a b : No} (k : il a.i b.i) (e : a = b) => il_ne k (by rw [e])) (cs_rises l D)
  exact hn.length_le_of_subset fun x hx => cs_in hx
theorem own_cap {w : World} {base k : Nat} {e : TypeId} {A : Option Addr} {n c : Nat} {xs : List Value} (h : w.ownsRow base e k (.slice A n c) n xs) : n ≤ c := by
  rcases h.2 with ⟨h0, h1⟩ | ⟨g', cap, cur, hv, _, _, h1, _⟩
  · omega
  · simp only [Value.slice.injEq] at hv
    obtain ⟨_, _, rfl⟩ := hv
    exact h1
/-- The nodes from behind, each twice. -/
def db (l : List No) (k : Nat) : List No := (l.reverse.take k).flatMap fun x => [x, x]
theorem db_succ {l : List No} {k j : Nat} {x : No} (hk : k < l.length) (hj : j = l.length - 1 - k) (hx : l[j]? = some x) : db l (k + 1) = db l k ++ [x, x] := by
  have h : l.reverse[k]? = some x := by rw [List.getElem?_reverse hk, ← hj]; exact hx
  obtain ⟨hl, rfl⟩ := List.getElem?_eq_some_iff.1 h
  unfold db
  rw [← List.take_append_getElem hl]
  simp only [List.flatMap_append, List.flatMap_cons, List.flatMap_nil, List.append_nil]
theorem db_len (l : List No) (k : Nat) : (db l k).length ≤ 2 * k := by
  unfold db
  have : ∀ m : List No, (m.flatMap fun x => [x, x]).length = 2 * m.length := fun m => by
    induction m with
    | nil => rfl
    | cons x m ih => simp only [List.flatMap_cons, List.length_append, ih, List.length_cons, List.length_nil]; omega
  rw [this, List.length_take]
  omega
theorem mem_db {l : List No} {n : No} : n ∈ db l l.length ↔ n ∈ l := by
  unfold db
  rw [List.take_of_length_le (by simp)]
  simp
theorem db_in {l : List No} {k : Nat} {n : No} (h : n ∈ db l k) : n ∈ l := by
  unfold db at h
  rw [List.mem_flatMap] at h
  obtain ⟨x, hx, h2⟩ := h
  have := List.mem_reverse.1 (List.mem_of_mem_take hx)
  simp at h2
  rw [h2]; exact this
/-- The first ones have different instances. -/
def Dk (l : List No) (i : Nat) : Prop := ∀ (a b : Nat) (x y : No), b < a → a < i → l[a]? = some x → l[b]? = some y → x.i ≠ y.i
theorem Dk.di {l : List No} (h : Dk l l.length) : Di l := by
  unfold Di
  rw [List.Nodup, List.pairwise_map, List.pairwise_iff_getElem]
  intro i j hi hj hij e
  exact h j i _ _ hij hj (List.getElem?_eq_getElem hj) (List.getElem?_eq_getElem hi) e.symm
theorem Dk.zero (l : List No) : Dk l 0 := fun a b x y h k => by omega
theorem Dk.succ {l : List No} {i : Nat} {x : No} (h : Dk l i) (hx : l[i]? = some x) (hn : ∀ b y, b < i → l[b]? = some y → x.i ≠ y.i) : Dk l (i + 1) := fun a b u v hb ha hu hv => by
  rcases Nat.lt_or_ge a i with k | k
  · exact h a b u v hb k hu hv
  · obtain rfl : a = i := by omega
    rw [hx] at hu
    cases hu
    exact hn b v hb hv
theorem nl_two (w : World) (x y : No) : Nl (w.alloc (.cells #[.int .i64 x.b, .int .i64 x.s, .int .i64 x.q, .slice x.h x.d.length x.c, .int .i64 y.b, .int .i64 y.s, .int .i64 y.q, .slice y.h y.d.length y.c] 30)) (w.heap.size + 1) (some ⟨w.heap.size, 0, none⟩) [x, y] := by
  have hb := heap_alloc_new w (.cells #[.int .i64 x.b, .int .i64 x.s, .int .i64 x.q, .slice x.h x.d.length x.c, .int .i64 y.b, .int .i64 y.s, .int .i64 y.q, .slice y.h y.d.length y.c] 30)
  refine .inr ⟨w.heap.size, 0, rfl, by omega, fun j z hj => ?_⟩
  rcases j with _ | _ | j
  · simp at hj; subst hj
    exact ⟨by rw [cell_of_row _ w.heap.size _ _ 30 _ hb]; rfl, by rw [cell_of_row _ w.heap.size _ _ 30 _ hb]; rfl, by rw [cell_of_row _ w.heap.size _ _ 30 _ hb]; rfl, by rw [cell_of_row _ w.heap.size _ _ 30 _ hb]; rfl⟩
  · simp at hj; subst hj
    exact ⟨by rw [cell_of_row _ w.heap.size _ _ 30 _ hb]; rfl, by rw [cell_of_row _ w.heap.size _ _ 30 _ hb]; rfl, by rw [cell_of_row _ w.heap.size _ _ 30 _ hb]; rfl, by rw [cell_of_row _ w.heap.size _ _ 30 _ hb]; rfl⟩
  · simp at hj

theorem ax_len : ax.length = 420 := by decide +kernel
theorem ms_len (c : List No) (D : List Is) : (ms c D).length ≤ 1000 := by
  have h1 : (ms c D).length ≤ ax.length := List.length_filter_le _ _
  rw [ax_len] at h1
  omega
theorem RdO.len {r : List No} {o : List Is} {m : Nat} (h : RdO r o) (hm : r.length ≤ m) : o.length ≤ m * m := by
  obtain ⟨parts, hO, rfl⟩ := h
  have hP := Pts.of (wg_in r) hO
  have h1 := odk_len (r := r) hP.len parts.length
  have h2 := hO.len
  rw [odk_all] at h1
  exact Nat.le_trans h1 (Nat.le_trans (Nat.mul_le_mul h2 (Nat.le_refl _)) (Nat.mul_le_mul hm hm))

set_option maxRecDepth 100000 in
set_option maxHeartbeats 4000000 in
theorem ltold_core (A : Option Addr) (c : Nat) (l : List No) (hl : l.length ≤ 30) (h7 : F7 l) (hc : l.length ≤ c) (Ad : Option Addr) (cd : Nat) (D : List Is) (hD : D.length ≤ 100) (hf : Wf l) (hW : Wd D) (w : World) (hs : Nl w w.heap.size A l) (hd : Dl w w.heap.size l) (hi : Il w w.heap.size Ad D) :
    Calls Tryz.prog 8 #[.slice A l.length c, .slice Ad D.length cd] w (UpPost w) := by
  have HAw := Lib.hid (awake_any w)
  have HFw := fun W h => Lib.hid (Few_any A c l W h)
  have hfw : fw l = true := fw_iff.2 ⟨hl, h7⟩
  rw [hfw] at HFw
  have d2 : decide ((100 : Int) < (D.length : Int)) = false := decide_eq_false (by omega)
  have HRl : ∀ W, Below w.heap.size w W → Hid (Calls Tryz.prog 12 #[.slice A l.length c, .slice Ad D.length cd] W (RdPost W (rd (cs l D) D))) := fun W hB =>
    Ready_any A c l (by omega) hc Ad cd D (by omega) hf hW h7 (Nat.le_trans (cs_len l D) hl) W (hs.to hB hB.size) (hd.to hB hB.size) (hi.to hB hB.size)
  have HMl : ∀ W, Below w.heap.size w W → Hid (Calls Tryz.prog 14 #[.slice A l.length c, .slice Ad D.length cd] W (IsPost W (ms (cs l D) D))) := fun W hB =>
    Missing_any A c l (by omega) hc Ad cd D (by omega) hf hW h7 (Nat.le_trans (cs_len l D) (by omega)) W (hs.to hB hB.size) (hd.to hB hB.size) (hi.to hB hB.size)
  have HRm : ∀ W A' c' (k : Nat), Dk l l.length → Below w.heap.size w W → Nl W W.heap.size A' (db l l.length) → (db l l.length).length ≤ c' → Hid (Calls Tryz.prog 12 #[.slice A' (db l l.length).length c', .slice Ad D.length cd] W (RdPost W (rd (cs l D) D))) := fun W A' c' _ hk hB hN hcap => by
    have hlen := db_len l l.length
    have hcs := told_law (l := l) (m := db l l.length) D (by omega) (by omega) hk.di fun n => mem_db
    have := Ready_any A' c' (db l l.length) (by omega) hcap Ad cd D (by omega) (hf.sub fun n hn => db_in hn) hW (fun n hn => h7 n (db_in hn)) (by rw [hcs]; exact Nat.le_trans (cs_len l D) hl) W hN ((hd.sub fun n hn => db_in hn).to hB hB.size) (hi.to hB hB.size)
    rw [hcs] at this
    exact this
  have HMm : ∀ W A' c' (k : Nat), Dk l l.length → Below w.heap.size w W → Nl W W.heap.size A' (db l l.length) → (db l l.length).length ≤ c' → Hid (Calls Tryz.prog 14 #[.slice A' (db l l.length).length c', .slice Ad D.length cd] W (IsPost W (ms (cs l D) D))) := fun W A' c' _ hk hB hN hcap => by
    have hlen := db_len l l.length
    have hcs := told_law (l := l) (m := db l l.length) D (by omega) (by omega) hk.di fun n => mem_db
    have := Missing_any A' c' (db l l.length) (by omega) hcap Ad cd D (by omega) (hf.sub fun n hn => db_in hn) hW (fun n hn => h7 n (db_in hn)) (by rw [hcs]; exact Nat.le_trans (cs_len l D) (by omega)) W hN ((hd.sub fun n hn => db_in hn).to hB hB.size) (hi.to hB hB.size)
    rw [hcs] at this
    exact this
  have HS := Lib.hid hs
  clear hs hd hi hf hW h7 hfw
  go_enter Tryz.func8, Tryz.ntmps8
  go_wp2_with fail
  refine HAw.out.mono ?_
  rintro e w1 ⟨rfl, B1⟩
  have HFw1 := HFw w1 (HS.out.to B1 B1.size)
  go_wp2_with fail
  refine HFw1.out.mono ?_
  rintro e w2 ⟨rfl, rfl⟩
  have HB1 := Lib.hid B1
  clear HAw HFw HFw1 B1
  go_wp2
  go_loopg [7, 8] l.length (fun q v t W => ∃ k : Nat, k + q = l.length ∧ t = .int .i64 (k : Int) ∧ Hid (W.ownsRow w2.heap.size 30 4 v (db l k).length (ncs (db l k))) ∧ Hid (Dk l k) ∧ Hid (Below w2.heap.size w2 W))
  case atStart => exact ⟨0, by omega, rfl, World.ownsRow_nil _ _ _ _, Dk.zero l, Below.refl _ _⟩
  case round =>
    obtain ⟨k, hk, rfl, hown, hDk, hB⟩ := hrel
    by_cases hlt : k < l.length
    · have hki : (k : Int) < (l.length : Int) := by omega
      have hk0 : (0 : Int) ≤ (k : Int) := by omega
      have HX := Lib.hid (List.getElem?_eq_getElem hlt)
      have HNl := Lib.hid (HS.out.below (HB1.out.trans (hB.out.mono HB1.out.size)) (Nat.le_refl _))
      generalize l[k] = x at *
      obtain ⟨V, hV⟩ : ∃ V, V = wr := ⟨_, rfl⟩
      subst hV
      go_wp2
      go_loopg [9] k (fun q t W => ∃ j : Nat, j + q = k ∧ t = .int .i64 (j : Int) ∧ Hid (Below V.heap.size V W) ∧ Hid (∀ b y, b < j → l[b]? = some y → x.i ≠ y.i))
      case atStart => exact ⟨0, by omega, rfl, Below.refl _ _, fun b y h => by omega⟩
      case round =>
        obtain ⟨j, hj, rfl, hbV, hne⟩ := hrel
        have HNw := Lib.hid (HNl.out.below (hbV.out.mono (by have := HB1.out.size; have := hB.out.size; omega)) (Nat.le_refl _))
        by_cases hjt : j < k
        · have hji : (j : Int) < (k : Int) := by omega
          have hjl : (j : Int) < (l.length : Int) := by omega
          have hj0 : (0 : Int) ≤ (j : Int) := by omega
          have HY := Lib.hid (List.getElem?_eq_getElem (show j < l.length by omega))
          obtain ⟨b, off, rfl, hb, p0, p1, p2, p3⟩ := HNw.out.at_ HX.out
          obtain ⟨b2, off2, e2, hb2, q0, q1, q2, q3⟩ := HNw.out.at_ HY.out
          cases e2
          generalize l[j] = y at *
          clear p2 p3 q2 q3
          by_cases he : (x.b, x.s) = (y.b, y.s)
          · have hq := same_yes he
            have HBX := Lib.hid ((HB1.out.trans (hB.out.mono HB1.out.size)).trans (hbV.out.mono (by have := HB1.out.size; have := hB.out.size; omega)))
            clear he
            go_wp2_with fail
            go_quiet (fail)
            go_wp2
            go_ret
            exact ⟨rfl, Gp.below_drewN HBX.out _⟩
          · have hq := same_no he
            have HN2 : Hid (∀ b y, b < j + 1 → l[b]? = some y → x.i ≠ y.i) := fun b z hb hz => by
              rcases Nat.lt_or_ge b j with h | h
              · exact hne.out b z h hz
              · obtain rfl : b = j := by omega
                rw [HY.out] at hz
                cases hz
                exact he
            clear he
            go_wp2_with fail
            go_quiet (fail)
            go_wp2
            go_roundg (k - (j + 1))
            case measure => omega
            case rel => exact ⟨j + 1, by omega, by go_num, Gp.below_drewN hbV.out _, HN2.out⟩
        · obtain rfl : j = k := by omega
          obtain ⟨i, hi⟩ : ∃ i, i = l.length - 1 - j := ⟨_, rfl⟩
          have hil : i < l.length := by omega
          have hii : (i : Int) < (l.length : Int) := by omega
          have hi0 : (0 : Int) ≤ (i : Int) := by omega
          have hw1 : IntKind.i64.wrap ((l.length : Int) - 1) = (l.length : Int) - 1 := IntWalk.i64_in _ (by omega)
          have hw2 : IntKind.i64.wrap ((l.length : Int) - 1 - (j : Int)) = (i : Int) := by rw [IntWalk.i64_in _ (by omega)]; omega
          have HI := Lib.hid (List.getElem?_eq_getElem hil)
          have HT := Lib.hid (db_succ hlt hi HI.out)
          obtain ⟨b, off, rfl, hb, p0, p1, p2, p3⟩ := HNw.out.at_ HI.out
          have hdl := db_len l j
          generalize l[i] = y at *
          have hz : w2.heap.size ≤ wr.heap.size := Nat.le_trans hB.out.size hbV.out.size
          have OWN := Lib.hid ((show wr.drew.ownsRow w2.heap.size 30 4 u7 (db l j).length (ncs (db l j)) from ownk hown.out hbV.out.drew).alloc (.cells #[.int .i64 y.b, .int .i64 y.s, .int .i64 y.q, .slice y.h y.d.length y.c, .int .i64 y.b, .int .i64 y.s, .int .i64 y.q, .slice y.h y.d.length y.c] 30))
          have ES := Lib.hid (nl_two wr.drew y y)
          have HDk2 := Lib.hid (hDk.out.succ HX.out hne.out)
          have HBw := Lib.hid (hB.out.trans (hbV.out.mono hB.out.size))
          clear hi hown hDk hB hne hbV
          go_wp2_with fail
          go_region_law (refine step_app4 (w := wr.drew.alloc (.cells #[.int .i64 y.b, .int .i64 y.s, .int .i64 y.q, .slice y.h y.d.length y.c, .int .i64 y.b, .int .i64 y.s, .int .i64 y.q, .slice y.h y.d.length y.c] 30)) (by rfl) (.tmp 49) (.tmp 66) (by rfl) u7 (by rfl) (db l j) w2.heap.size OWN.out (some ⟨wr.heap.size, 0, none⟩) 2 2 (by rfl) [y, y] rfl _ ES.out (by simp; omega) (by simp; omega) ?_; intro v5 w5 own5 grow5; have B5 := (HBw.out.drew.alloc hz (.cells #[.int .i64 y.b, .int .i64 y.s, .int .i64 y.q, .slice y.h y.d.length y.c, .int .i64 y.b, .int .i64 y.s, .int .i64 y.q, .slice y.h y.d.length y.c] 30)).grown grow5 (by simp; omega) (fun r hr => (OWN.out.lt r hr).1))
          all_goals
            have HO5 := Lib.hid own5
            have HB5 := Lib.hid B5
            clear own5 grow5 B5
            go_wp2
            go_roundg (l.length - (j + 1))
            case measure => omega
            case rel => exact ⟨j + 1, by omega, by go_num, by rw [HT.out]; exact HO5.out, HDk2.out, HB5.out⟩
    · obtain rfl : l.length = k := by omega
      obtain ⟨A2, c2, rfl, hN2, _⟩ := own_nl hown.out
      have hcap := own_cap hown.out
      have HB2 := Lib.hid (HB1.out.trans (hB.out.mono HB1.out.size))
      have HN2 := Lib.hid hN2
      have HRl1 := HRl wr HB2.out
      have hDk' := hDk.out
      clear hown hN2 HRl
      generalize (db l l.length) = m at *
      go_wp2_with fail
      refine HRl1.out.mono ?_
      rintro e w3 ⟨v3, o, rfl, hr3, ho3, b3⟩
      obtain ⟨A3, c3, rfl, hI3, _⟩ := own_il ho3
      have HB3 := Lib.hid (HB2.out.trans (b3.mono HB2.out.size))
      have HRm3 := HRm w3 A2 c2 0 hDk' HB3.out (HN2.out.to b3 b3.size) hcap
      have HI3 := Lib.hid hI3
      have HR3 := Lib.hid hr3
      have HN3 := Lib.hid (HN2.out.to b3 b3.size)
      clear HRl1 hr3 ho3 hI3 b3 HN2 HRm
      go_wp2_with fail
      refine HRm3.out.mono ?_
      rintro e w4 ⟨v4, o4, rfl, hr4, ho4, b4⟩
      obtain ⟨A4, c4, rfl, hI4, _⟩ := own_il ho4
      obtain rfl := HR3.out.one hr4
      have hol : o.length ≤ 1000 := by
        have := hr4.len (Nat.le_trans (rdk_len _ _ _) (Nat.le_trans (cs_len l D) hl))
        omega
      have HB4 := Lib.hid (HB3.out.trans (b4.mono HB3.out.size))
      have HSm := Lib.hid (same_any A3 A4 c3 c4 o o true (by simp) hol w4 (HI3.out.to b4 b4.size) hI4)
      have HN4 := Lib.hid (HN3.out.to b4 b4.size)
      clear HRm3 hr4 ho4 hI4 b4 HN3 HR3 HI3
      go_wp2_with fail
      refine HSm.out.mono ?_
      rintro e w5 ⟨rfl, b5⟩
      have HB5 := Lib.hid (HB4.out.trans (b5.mono HB4.out.size))
      have HN5 := Lib.hid (HN4.out.to b5 b5.size)
      have HMl1 := HMl w5 HB5.out
      clear HSm b5 HN4 HMl
      go_wp2_with fail
      refine HMl1.out.mono ?_
      rintro e w6 ⟨v6, rfl, ho6, b6⟩
      obtain ⟨A6, c6, rfl, hI6, _⟩ := own_il ho6
      have HB6 := Lib.hid (HB5.out.trans (b6.mono HB5.out.size))
      have HMm6 := HMm w6 A2 c2 0 hDk' HB6.out (HN5.out.to b6 b6.size) hcap
      have HI6 := Lib.hid hI6
      clear HMl1 ho6 hI6 b6 HN5 HMm
      go_wp2_with fail
      refine HMm6.out.mono ?_
      rintro e w7 ⟨v7, rfl, ho7, b7⟩
      obtain ⟨A7, c7, rfl, hI7, _⟩ := own_il ho7
      have HB7 := Lib.hid (HB6.out.trans (b7.mono HB6.out.size))
      have HSm := Lib.hid (same_any A6 A7 c6 c7 (ms (cs l D) D) (ms (cs l D) D) true (by simp) (ms_len _ _) w7 (HI6.out.to b7 b7.size) hI7)
      clear HMm6 ho7 hI7 b7 HI6
      generalize ms (cs l D) D = mm at *
      go_wp2_with fail
      refine HSm.out.mono ?_
      rintro e w8 ⟨rfl, b8⟩
      have HB8 := Lib.hid (HB7.out.trans (b8.mono HB7.out.size))
      clear HSm b8
      go_wp2
      go_ret
      exact ⟨rfl, HB8.out⟩
theorem ltold_any (A : Option Addr) (c : Nat) (l : List No) (hc : l.length ≤ c) (Ad : Option Addr) (cd : Nat) (D : List Is) (hf : Wf l) (hW : Wd D) (w : World) (hs : Nl w w.heap.size A l) (hd : Dl w w.heap.size l) (hi : Il w w.heap.size Ad D) :
    Calls Tryz.prog 8 #[.slice A l.length c, .slice Ad D.length cd] w (UpPost w) := by
  by_cases hfw : fw l = true
  · have h1 := fw_iff.1 hfw
    by_cases hD : D.length ≤ 100
    · exact ltold_core A c l h1.1 h1.2 hc Ad cd D hD hf hW w hs hd hi
    · have d2 : decide ((100 : Int) < (D.length : Int)) = true := decide_eq_true (by omega)
      have HAw := Lib.hid (awake_any w)
      have HFw := fun W h => Lib.hid (Few_any A c l W h)
      rw [hfw] at HFw
      clear hfw h1 hf hW hd hi
      go_enter Tryz.func8, Tryz.ntmps8
      go_wp2_with fail
      refine HAw.out.mono ?_
      rintro e w1 ⟨rfl, B1⟩
      have HFw1 := HFw w1 (hs.to B1 B1.size)
      go_wp2_with fail
      refine HFw1.out.mono ?_
      rintro e w2 ⟨rfl, rfl⟩
      go_wp2
      go_ret
      exact ⟨rfl, B1⟩
  · have hfw' : fw l = false := by simpa using hfw
    have HAw := Lib.hid (awake_any w)
    have HFw := fun W h => Lib.hid (Few_any A c l W h)
    rw [hfw'] at HFw
    clear hfw hfw' hf hW hd hi
    go_enter Tryz.func8, Tryz.ntmps8
    go_wp2_with fail
    refine HAw.out.mono ?_
    rintro e w1 ⟨rfl, B1⟩
    have HFw1 := HFw w1 (hs.to B1 B1.size)
    go_wp2_with fail
    refine HFw1.out.mono ?_
    rintro e w2 ⟨rfl, rfl⟩
    go_wp2
    go_ret
    exact ⟨rfl, B1⟩
end Go.Proofs.YtgpciipemgljcaaGreat.Od

/-
  How nodes, instances and slices of such that came in are read. No program's function is walked here. No conditions.
-/
namespace Go.Proofs.YtgpciipemgljcaaGreat.Od
open Go.RowKit Go.ChangeShapes Go.WideShapes Go.ChangeAt Go.Joins Go.Deep
set_option linter.unusedVariables false
set_option maxRecDepth 100000

theorem list_of {α : Type} {P : Nat → α → Prop} (n : Nat) (h : ∀ i, i < n → ∃ x, P i x) : ∃ l : List α, l.length = n ∧ ∀ i x, l[i]? = some x → P i x := by
  induction n with
  | zero => exact ⟨[], rfl, fun i x hx => by simp at hx⟩
  | succ n ih =>
    obtain ⟨l, hl, hp⟩ := ih (fun i hi => h i (by omega))
    obtain ⟨x, hx⟩ := h n (by omega)
    refine ⟨l ++ [x], by simp [hl], fun i y hy => ?_⟩
    rcases Nat.lt_or_ge i l.length with hi | hi
    · rw [List.getElem?_append_left hi] at hy
      exact hp i y hy
    · have : i = l.length := by
        have := (List.getElem?_eq_some_iff.1 hy).1
        simp at this; omega
      subst this
      rw [List.getElem?_append_right (Nat.le_refl _)] at hy
      simp at hy
      subst hy
      rw [hl]; exact hx
theorem fits_of {n : Int} (h : (Lit.int .i64 n).wf = true) : fits n := by
  have := bounds_i64 h
  unfold fits
  omega
theorem add_adds (a : Addr) (i j : Nat) : (a.add i).add j = a.add (i + j) := by
  unfold Addr.add
  by_cases h1 : i = 0 <;> by_cases h2 : j = 0 <;> simp [h1, h2, Nat.add_assoc]

section
variable {H : Type} {enc : TypeId × Value → H} {W : World}
theorem open_deps {fuel : Nat} {v : Value} {x : DataW H × List MemPlace} (h : DataW.trod enc Tryz.prog W 0 (fun _ => true) true fuel 26 [v] = some x) :
    ∃ (A : Option Addr) (c : Nat) (xs : List Int), v = .slice A xs.length c ∧ At.Sl W W.heap.size .i64 A xs := by
  rcases open_ints Tryz.underlying26 Tryz.underlying3 (by kernel_rfl) h with ⟨hcs, _⟩ | ⟨a, l, c, zs, hcs, _, hl, hm, hz, _, hcell, hwz⟩
  · simp at hcs
    subst hcs
    exact ⟨none, 0, [], rfl, At.Sl.nil⟩
  · simp at hcs
    subst hcs
    have hz' : zs.length = c := by simpa using hz
    have e : (zs.take l).length = l := by simp only [List.length_take]; omega
    exact ⟨some a, c, zs.take l, by rw [e], At.sl_of_cells hl hz' hcell⟩
theorem inst_of {fuel : Nat} {c0 c1 : Value} {x : DataW H × List MemPlace} (hf : DataW.trod enc Tryz.prog W 0 (fun _ => true) true fuel 25 [c0, c1] = some x) :
    ∃ i : Is, c0 = .int .i64 i.1 ∧ c1 = .int .i64 i.2 ∧ fi i := by
  obtain ⟨xs, n, _, _, _, hlen, hf⟩ := DataW.trod_struct Tryz.underlying25 hf
  have k3 : Tryz.prog.cellsOf 3 = 1 := by kernel_rfl
  have l2 : xs.length = 2 := hlen
  have h0 : DataW.trod enc Tryz.prog W 0 (fun _ => true) true n 3 ((([c0, c1]).drop 0).take (Tryz.prog.cellsOf 3)) = xs[0]? := hf 0 _ rfl
  have h1 : DataW.trod enc Tryz.prog W 0 (fun _ => true) true n 3 ((([c0, c1]).drop 1).take (Tryz.prog.cellsOf 3)) = xs[1]? := hf 1 _ rfl
  rw [List.getElem?_eq_getElem (by omega), k3] at h0 h1
  obtain ⟨u, e0, _, hw⟩ := DataW.trod_int Tryz.underlying3 h0
  obtain ⟨s, e1, _, hw'⟩ := DataW.trod_int Tryz.underlying3 h1
  simp at e0 e1
  exact ⟨(u, s), e0, e1, fits_of hw, fits_of hw'⟩
theorem attr_of {fuel : Nat} {c0 c1 : Value} {x : DataW H × List MemPlace} (hf : DataW.trod enc Tryz.prog W 0 (fun _ => true) true fuel 28 [c0, c1] = some x) :
    ∃ (q : Int) (A : Option Addr) (c : Nat) (ds : List Int), c0 = .int .i64 q ∧ c1 = .slice A ds.length c ∧ fits q ∧ At.Sl W W.heap.size .i64 A ds := by
  obtain ⟨xs, n, _, _, _, hlen, hf⟩ := DataW.trod_struct Tryz.underlying28 hf
  have k3 : Tryz.prog.cellsOf 3 = 1 := by kernel_rfl
  have k26 : Tryz.prog.cellsOf 26 = 1 := by kernel_rfl
  have l2 : xs.length = 2 := hlen
  have h0 : DataW.trod enc Tryz.prog W 0 (fun _ => true) true n 3 ((([c0, c1]).drop 0).take (Tryz.prog.cellsOf 3)) = xs[0]? := hf 0 _ rfl
  have h1 : DataW.trod enc Tryz.prog W 0 (fun _ => true) true n 26 ((([c0, c1]).drop 1).take (Tryz.prog.cellsOf 26)) = xs[1]? := hf 1 _ rfl
  rw [List.getElem?_eq_getElem (by omega), k3] at h0
  rw [List.getElem?_eq_getElem (by omega), k26] at h1
  obtain ⟨u, e0, _, hw⟩ := DataW.trod_int Tryz.underlying3 h0
  obtain ⟨A, c, ds, e1, hs⟩ := open_deps (v := c1) (by simpa using h1)
  simp at e0
  exact ⟨u, A, c, ds, e0, e1, fits_of hw, hs⟩
theorem node_of {fuel : Nat} {c0 c1 c2 c3 : Value} {x : DataW H × List MemPlace} (hf : DataW.trod enc Tryz.prog W 0 (fun _ => true) true fuel 30 [c0, c1, c2, c3] = some x) :
    ∃ n : No, c0 = .int .i64 n.b ∧ c1 = .int .i64 n.s ∧ c2 = .int .i64 n.q ∧ c3 = .slice n.h n.d.length n.c ∧ fi n.i ∧ fits n.q ∧ At.Sl W W.heap.size .i64 n.h n.d := by
  obtain ⟨xs, n, _, _, _, hlen, hf⟩ := DataW.trod_struct Tryz.underlying30 hf
  have k25 : Tryz.prog.cellsOf 25 = 2 := by kernel_rfl
  have k28 : Tryz.prog.cellsOf 28 = 2 := by kernel_rfl
  have l2 : xs.length = 2 := hlen
  have h0 : DataW.trod enc Tryz.prog W 0 (fun _ => true) true n 25 ((([c0, c1, c2, c3]).drop 0).take (Tryz.prog.cellsOf 25)) = xs[0]? := hf 0 _ rfl
  have h1 : DataW.trod enc Tryz.prog W 0 (fun _ => true) true n 28 ((([c0, c1, c2, c3]).drop 2).take (Tryz.prog.cellsOf 28)) = xs[1]? := hf 1 _ rfl
  rw [List.getElem?_eq_getElem (by omega), k25] at h0
  rw [List.getElem?_eq_getElem (by omega), k28] at h1
  obtain ⟨i, e0, e1, hi⟩ := inst_of (c0 := c0) (c1 := c1) (by simpa using h0)
  obtain ⟨q, A, c, ds, e2, e3, hq, hs⟩ := attr_of (c0 := c2) (c1 := c3) (by simpa using h1)
  exact ⟨⟨i.1, i.2, q, ds, A, c⟩, e0, e1, e2, e3, hi, hq, hs⟩
theorem array4 {α : Type} {cs : Array α} (h : cs.size = 4) : ∃ c0 c1 c2 c3, cs = #[c0, c1, c2, c3] := by
  obtain ⟨l⟩ := cs
  match l, h with
  | [c0, c1, c2, c3], _ => exact ⟨c0, c1, c2, c3, rfl⟩
theorem list4 {α : Type} {l : List α} (h : l.length = 4) : ∃ c0 c1 c2 c3, l = [c0, c1, c2, c3] := by
  match l, h with
  | [c0, c1, c2, c3], _ => exact ⟨c0, c1, c2, c3, rfl⟩
theorem list2 {α : Type} {l : List α} (h : l.length = 2) : ∃ c0 c1, l = [c0, c1] := by
  match l, h with
  | [c0, c1], _ => exact ⟨c0, c1, rfl⟩
theorem open_node {r : Reach} {b0 : Nat} {v : Value} {d : DataW H} {p : List MemPlace} (hv : Value.okWide Tryz.prog W r b0 30 v) (h : DataW.Trod enc Tryz.prog W 0 (fun _ => true) true 30 v d p) :
    ∃ n : No, v = nv n ∧ fi n.i ∧ fits n.q ∧ At.Sl W W.heap.size .i64 n.h n.d := by
  obtain ⟨cs, rfl, hsz⟩ := okWide_struct Tryz.underlying30 hv
  obtain ⟨c0, c1, c2, c3, rfl⟩ := array4 (hsz.trans (by kernel_rfl))
  obtain ⟨fuel, hf⟩ := h
  have hf' : DataW.trod enc Tryz.prog W 0 (fun _ => true) true fuel 30 [c0, c1, c2, c3] = some (d, p) := by simpa [Value.cells] using hf
  obtain ⟨n, rfl, rfl, rfl, rfl, h1, h2, h3⟩ := node_of hf'
  exact ⟨n, rfl, h1, h2, h3⟩
theorem open_nodes {r : Reach} {b0 : Nat} {v : Value} {d : DataW H} {p : List MemPlace} (hv : Value.okWide Tryz.prog W r b0 22 v) (h : DataW.Trod enc Tryz.prog W 0 (fun _ => true) true 22 v d p) :
    ∃ (A : Option Addr) (c : Nat) (l : List No), v = .slice A l.length c ∧ l.length ≤ c ∧ Wf l ∧ Nl W W.heap.size A l ∧ Dl W W.heap.size l := by
  obtain ⟨A, len, c, rfl⟩ := okWide_slice Tryz.underlying22 hv
  obtain ⟨fuel, hf⟩ := h
  have c30 : Tryz.prog.cellsOf 30 = 4 := by kernel_rfl
  rcases open_slice Tryz.underlying22 hf with ⟨hcs, _⟩ | ⟨a, l, cap, m, n, D, Pl, hcs, _, hl, hm, hmm, _, hi⟩
  · simp [Value.cells] at hcs
    obtain ⟨rfl, rfl, rfl⟩ := hcs
    exact ⟨none, 0, [], rfl, Nat.le_refl _, (fun x hx => by cases hx), .inl rfl, (fun x hx => by cases hx)⟩
  · simp [Value.cells] at hcs
    obtain ⟨rfl, rfl, rfl⟩ := hcs
    have hmc : m = c := by simpa using hmm
    subst hmc
    obtain ⟨L, hL, hP⟩ := list_of (P := fun i (x : No) => (W.cell? (a.add (i * 4)) = some (.int .i64 x.b) ∧ W.cell? (a.add (i * 4 + 1)) = some (.int .i64 x.s) ∧ W.cell? (a.add (i * 4 + 2)) = some (.int .i64 x.q) ∧ W.cell? (a.add (i * 4 + 3)) = some (.slice x.h x.d.length x.c)) ∧ (fi x.i ∧ fits x.q) ∧ At.Sl W W.heap.size .i64 x.h x.d) len (fun i hi' => by
      obtain ⟨cs', h1, h2⟩ := hi i (by omega)
      rw [c30] at h1
      obtain ⟨_, hlen, hcell⟩ := World.cells?_some h1
      obtain ⟨c0, c1, c2, c3, rfl⟩ := list4 hlen
      obtain ⟨k, rfl, rfl, rfl, rfl, g1, g2, g3⟩ := node_of h2
      have e0 := hcell 0 (by omega)
      have e1 := hcell 1 (by omega)
      have e2 := hcell 2 (by omega)
      have e3 := hcell 3 (by omega)
      rw [add_adds] at e0 e1 e2 e3
      exact ⟨k, ⟨by simpa using e0, by simpa using e1, by simpa using e2, by simpa using e3⟩, ⟨g1, g2⟩, g3⟩)
    subst hL
    refine ⟨some a, m, L, rfl, hl, fun x hx => ?_, ?_, fun x hx => ?_⟩
    · obtain ⟨i, hi⟩ := List.getElem?_of_mem hx
      exact (hP i x hi).2.1
    · rcases Nat.eq_zero_or_pos L.length with h0 | h0
      · exact .inl (List.length_eq_zero_iff.1 h0)
      · obtain ⟨b, off, sp⟩ := a
        have hc := (hP 0 L[0] (List.getElem?_eq_getElem h0)).1.1
        have hsp : sp = none := by simpa [Addr.add] using World.cell?_spot hc
        subst hsp
        have hc0 : W.cell? ⟨b, off, none⟩ = some (.int .i64 L[0].b) := by simpa [Addr.add] using hc
        refine .inr ⟨b, off, rfl, World.block_lt_of_cell? W _ hc0, fun i x hx => ?_⟩
        obtain ⟨⟨q0, q1, q2, q3⟩, _⟩ := hP i x hx
        rw [Addr.add_lit] at q0 q1 q2 q3
        exact ⟨q0, by rw [Nat.add_assoc]; exact q1, by rw [Nat.add_assoc]; exact q2, by rw [Nat.add_assoc]; exact q3⟩
    · obtain ⟨i, hi⟩ := List.getElem?_of_mem hx
      exact (hP i x hi).2.2
theorem open_insts {r : Reach} {b0 : Nat} {v : Value} {d : DataW H} {p : List MemPlace} (hv : Value.okWide Tryz.prog W r b0 23 v) (h : DataW.Trod enc Tryz.prog W 0 (fun _ => true) true 23 v d p) :
    ∃ (A : Option Addr) (c : Nat) (l : List Is), v = .slice A l.length c ∧ Wd l ∧ Il W W.heap.size A l := by
  obtain ⟨A, len, c, rfl⟩ := okWide_slice Tryz.underlying23 hv
  obtain ⟨fuel, hf⟩ := h
  have c25 : Tryz.prog.cellsOf 25 = 2 := by kernel_rfl
  rcases open_slice Tryz.underlying23 hf with ⟨hcs, _⟩ | ⟨a, l, cap, m, n, D, Pl, hcs, _, hl, hm, hmm, _, hi⟩
  · simp [Value.cells] at hcs
    obtain ⟨rfl, rfl, rfl⟩ := hcs
    exact ⟨none, 0, [], rfl, (fun x hx => by cases hx), .inl rfl⟩
  · simp [Value.cells] at hcs
    obtain ⟨rfl, rfl, rfl⟩ := hcs
    have hmc : m = c := by simpa using hmm
    subst hmc
    obtain ⟨L, hL, hP⟩ := list_of (P := fun i (x : Is) => (W.cell? (a.add (i * 2)) = some (.int .i64 x.1) ∧ W.cell? (a.add (i * 2 + 1)) = some (.int .i64 x.2)) ∧ fi x) len (fun i hi' => by
      obtain ⟨cs', h1, h2⟩ := hi i (by omega)
      rw [c25] at h1
      obtain ⟨_, hlen, hcell⟩ := World.cells?_some h1
      obtain ⟨c0, c1, rfl⟩ := list2 hlen
      obtain ⟨k, rfl, rfl, g1⟩ := inst_of h2
      have e0 := hcell 0 (by omega)
      have e1 := hcell 1 (by omega)
      rw [add_adds] at e0 e1
      exact ⟨k, ⟨by simpa using e0, by simpa using e1⟩, g1⟩)
    subst hL
    refine ⟨some a, m, L, rfl, fun x hx => ?_, ?_⟩
    · obtain ⟨i, hi⟩ := List.getElem?_of_mem hx
      exact (hP i x hi).2
    · rcases Nat.eq_zero_or_pos L.length with h0 | h0
      · exact .inl (List.length_eq_zero_iff.1 h0)
      · obtain ⟨b, off, sp⟩ := a
        have hc := (hP 0 L[0] (List.getElem?_eq_getElem h0)).1.1
        have hsp : sp = none := by simpa [Addr.add] using World.cell?_spot hc
        subst hsp
        have hc0 : W.cell? ⟨b, off, none⟩ = some (.int .i64 L[0].1) := by simpa [Addr.add] using hc
        refine .inr ⟨b, off, rfl, World.block_lt_of_cell? W _ hc0, fun i x hx => ?_⟩
        obtain ⟨⟨q0, q1⟩, _⟩ := hP i x hx
        rw [Addr.add_lit] at q0 q1
        exact ⟨q0, by rw [Nat.add_assoc]; exact q1⟩

/-- A slice that reads as bools. -/
def Bo (w : World) (B : Nat) (A : Option Addr) (l : List Bool) : Prop := l = [] ∨ ∃ b off, A = some ⟨b, off, none⟩ ∧ b < B ∧ ∀ j x, l[j]? = some x → w.cell? ⟨b, off + j, none⟩ = some (.bool x)
theorem Bo.at_ {w w' : World} {B : Nat} {A : Option Addr} {l : List Bool} (h : Bo w B A l) (hb : Below B w w') {j : Nat} {x : Bool} (hj : l[j]? = some x) : ∃ b off, A = some ⟨b, off, none⟩ ∧ w'.cell? ⟨b, off + j, none⟩ = some (.bool x) := by
  rcases h with rfl | ⟨b, off, h1, h2, h3⟩
  · simp at hj
  · exact ⟨b, off, h1, (hb.cell (p := ⟨b, off + j, none⟩) h2).trans (h3 j x hj)⟩
theorem open_bo {r : Reach} {b0 : Nat} {v : Value} {d : DataW H} {p : List MemPlace} (hv : Value.okWide Tryz.prog W r b0 41 v) (h : DataW.Trod enc Tryz.prog W 0 (fun _ => true) true 41 v d p) :
    ∃ (A : Option Addr) (c : Nat) (l : List Bool), v = .slice A l.length c ∧ Bo W W.heap.size A l := by
  obtain ⟨A, len, c, rfl⟩ := okWide_slice Tryz.underlying41 hv
  obtain ⟨fuel, hf⟩ := h
  rcases open_bools Tryz.underlying41 Tryz.underlying4 (by kernel_rfl) hf with ⟨hcs, _⟩ | ⟨a, l, cap, B, hcs, _, hl, hm, _, hi⟩
  · simp [Value.cells] at hcs
    obtain ⟨rfl, rfl, rfl⟩ := hcs
    exact ⟨none, 0, [], rfl, .inl rfl⟩
  · simp [Value.cells] at hcs
    obtain ⟨rfl, rfl, rfl⟩ := hcs
    refine ⟨some a, c, (List.range len).map B, by simp, ?_⟩
    rcases Nat.eq_zero_or_pos len with h0 | h0
    · subst h0
      exact .inl rfl
    · obtain ⟨b, off, sp⟩ := a
      have hc := hi 0 (by omega)
      have hsp : sp = none := by simpa [Addr.add] using World.cell?_spot hc
      subst hsp
      have hc0 : W.cell? ⟨b, off, none⟩ = some (.bool (B 0)) := by simpa [Addr.add] using hc
      refine .inr ⟨b, off, rfl, World.block_lt_of_cell? W _ hc0, fun i x hx => ?_⟩
      rw [List.getElem?_map] at hx
      obtain ⟨k, hk, rfl⟩ := Option.map_eq_some_iff.1 hx
      have hil : i < len := by have := (List.getElem?_eq_some_iff.1 hk).1; simpa using this
      rw [List.getElem?_range hil] at hk
      obtain rfl : i = k := by simpa using hk
      have := hi i (by omega)
      rw [Addr.add_lit] at this
      exact this
end
end Go.Proofs.YtgpciipemgljcaaGreat.Od
