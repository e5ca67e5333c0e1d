/-
  The stable sort's plain side: what its merge of two sorted blocks makes, over arrays.
  The stable sort's plain side at any length: rows that are sorted between bounds, and in their order across them.
-/
import Derived.Sort.LotA
namespace Go.Proofs.Ytdgnengfcabgjaa
open Go.Sort
variable {α : Type} [Inhabited α] {T : α → α → Bool}

theorem swo_chain (hS : SWO T) {d : Array α} {lo hi : Nat} (h : SortedIn T lo hi d) {i j : Nat} (h1 : lo ≤ i) (h2 : i ≤ j) (h3 : j < hi) : T d[j]! d[i]! = false := by
  rcases Nat.eq_or_lt_of_le h2 with e | e
  · subst e; exact hS.irrefl _
  · exact h i j h1 e h3
theorem sorted_part {d : Array α} {a b a' b' : Nat} (h : SortedIn T a b d) (ha : a ≤ a') (hb : b' ≤ b) : SortedIn T a' b' d := fun i j h1 h2 h3 => h i j (by omega) h2 (by omega)
theorem sorted_at {d d' : Array α} {a b : Nat} (h : SortedIn T a b d) (he : ∀ k, a ≤ k → k < b → d'[k]! = d[k]!) : SortedIn T a b d' := fun i j h1 h2 h3 => by
  rw [he i h1 (by omega), he j (by omega) h3]; exact h i j h1 h2 h3

/-- The one element of the left block, put where it belongs in the right one. -/
theorem left_sorted (hS : SWO T) {d d' : Array α} {a b i : Nat} (hai : a + 1 ≤ i) (hib : i ≤ b) (hr : SortedIn T (a + 1) b d) (h1 : i = a + 1 ∨ T d[i - 1]! d[a]! = true) (h2 : i = b ∨ T d[i]! d[a]! = false)
    (he : ∀ x, d'[x]! = if a ≤ x ∧ x + 1 < i then d[x + 1]! else if x + 1 = i then d[a]! else d[x]!) : SortedIn T a b d' := by
  have g1 : ∀ k, a + 1 ≤ k → k < i → T d[a]! d[k]! = false := fun k hk hki => by
    rcases h1 with h1 | h1
    · omega
    · have e1 := swo_chain hS hr (i := k) (j := i - 1) hk (by omega) (by omega)
      have e2 : T d[k]! d[a]! = true := by
        cases e : T d[k]! d[a]! with
        | true => rfl
        | false => rw [hS.ntrans _ _ _ e1 e] at h1; cases h1
      exact hS.asymmA e2
  have g2 : ∀ k, i ≤ k → k < b → T d[k]! d[a]! = false := fun k hk hkb => by
    rcases h2 with h2 | h2
    · omega
    · exact hS.ntrans _ _ _ (swo_chain hS hr (i := i) (j := k) (by omega) hk hkb) h2
  intro p q hp hpq hq
  rw [he p, he q]
  by_cases c1 : q + 1 < i
  · rw [if_pos ⟨by omega, c1⟩, if_pos ⟨hp, by omega⟩]
    exact hr _ _ (by omega) (by omega) (by omega)
  · rw [if_neg (fun h => c1 h.2)]
    by_cases c2 : q + 1 = i
    · rw [if_pos c2, if_pos ⟨hp, by omega⟩]
      exact g1 _ (by omega) (by omega)
    · rw [if_neg c2]
      by_cases c3 : p + 1 < i
      · rw [if_pos ⟨hp, c3⟩]
        exact hr _ _ (by omega) (by omega) hq
      · rw [if_neg (fun h => c3 h.2)]
        by_cases c4 : p + 1 = i
        · rw [if_pos c4]; exact g2 _ (by omega) hq
        · rw [if_neg c4]; exact hr _ _ (by omega) hpq hq
/-- The one element of the right block, put where it belongs in the left one. -/
theorem right_sorted (hS : SWO T) {d d' : Array α} {a m i : Nat} (hai : a ≤ i) (him : i ≤ m) (hr : SortedIn T a m d) (h1 : i = a ∨ T d[m]! d[i - 1]! = false) (h2 : i = m ∨ T d[m]! d[i]! = true)
    (he : ∀ x, d'[x]! = if x = i then d[m]! else if i < x ∧ x ≤ m then d[x - 1]! else d[x]!) : SortedIn T a (m + 1) d' := by
  have g1 : ∀ k, a ≤ k → k < i → T d[m]! d[k]! = false := fun k hk hki => by
    rcases h1 with h1 | h1
    · omega
    · exact hS.ntrans _ _ _ h1 (swo_chain hS hr (i := k) (j := i - 1) hk (by omega) (by omega))
  have g2 : ∀ k, i ≤ k → k < m → T d[k]! d[m]! = false := fun k hk hkb => by
    rcases h2 with h2 | h2
    · omega
    · exact hS.ntrans _ _ _ (swo_chain hS hr (i := i) (j := k) (by omega) hk hkb) (hS.asymmA h2)
  intro p q hp hpq hq
  rw [he p, he q]
  by_cases c1 : q = i
  · rw [if_pos c1, if_neg (by omega), if_neg (by omega)]
    exact g1 _ hp (by omega)
  · rw [if_neg c1]
    by_cases c2 : i < q
    · rw [if_pos ⟨c2, by omega⟩]
      by_cases c3 : p = i
      · rw [if_pos c3]; exact g2 _ (by omega) (by omega)
      · rw [if_neg c3]
        by_cases c4 : i < p
        · rw [if_pos ⟨c4, by omega⟩]; exact hr _ _ (by omega) (by omega) (by omega)
        · rw [if_neg (fun h => c4 h.1)]; exact swo_chain hS hr (by omega) (by omega) (by omega)
    · rw [if_neg (fun h => c2 h.1), if_neg (by omega), if_neg (by omega)]
      exact hr _ _ hp hpq (by omega)

/-- d' is d with the blocks [s, m) and [m, e) exchanged. -/
def Rotated (s m e : Nat) (d d' : Array α) : Prop := ∀ k, d'[k]! = if s ≤ k ∧ k < e then (if k < s + (e - m) then d[k + (m - s)]! else d[k - (e - m)]!) else d[k]!
theorem Rotated.none_left {m e : Nat} (d : Array α) : Rotated m m e d d := fun k => by
  by_cases c : m ≤ k ∧ k < e
  · rw [if_pos c, if_pos (by omega), Nat.sub_self, Nat.add_zero]
  · rw [if_neg c]
theorem Rotated.none_right {s m : Nat} (d : Array α) : Rotated s m m d d := fun k => by
  by_cases c : s ≤ k ∧ k < m
  · rw [if_pos c, if_neg (by omega), Nat.sub_self, Nat.sub_zero]
  · rw [if_neg c]

/-- What the merge asks, and what it makes. -/
structure Two (T : α → α → Bool) (L : α → α → Prop) (a m b : Nat) (d : Array α) : Prop where
  l : SortedIn T a m d
  r : SortedIn T m b d
  lr : ∀ i j, a ≤ i → i < m → m ≤ j → j < b → L d[i]! d[j]!
structure Cut (T : α → α → Bool) (a m b mid s : Nat) (d : Array α) : Prop where
  as : a ≤ s
  sm : s ≤ m
  smid : s ≤ mid
  eb : mid + m - s ≤ b
  lo : s = a ∨ mid + m - s = b ∨ T d[mid + m - s]! d[s - 1]! = false
  hi : s = m ∨ mid + m - s = m ∨ T d[mid + m - 1 - s]! d[s]! = true
variable {L : α → α → Prop} {a m b mid s : Nat} {d d1 : Array α}
theorem Two.first (h : Two T L a m b d) (hc : Cut T a m b mid s d) (hr : Rotated s m (mid + m - s) d d1) : Two T L a s mid d1 := by
  have := hc.as; have := hc.sm; have := hc.smid; have := hc.eb
  have e1 : ∀ k, k < s → d1[k]! = d[k]! := fun k hk => by rw [hr k, if_neg (by omega)]
  have e2 : ∀ k, s ≤ k → k < mid → d1[k]! = d[k + (m - s)]! := fun k h1 h2 => by rw [hr k, if_pos (by omega), if_pos (by omega)]
  refine ⟨fun i j h1 h2 h3 => ?_, fun i j h1 h2 h3 => ?_, fun i j h1 h2 h3 h4 => ?_⟩
  · rw [e1 i (by omega), e1 j h3]; exact h.l i j h1 h2 (by omega)
  · rw [e2 i h1 (by omega), e2 j (by omega) h3]; exact h.r _ _ (by omega) (by omega) (by omega)
  · rw [e1 i h2, e2 j h3 h4]; exact h.lr _ _ h1 (by omega) (by omega) (by omega)
theorem Two.second (h : Two T L a m b d) (hc : Cut T a m b mid s d) (hr : Rotated s m (mid + m - s) d d1) : Two T L mid (mid + m - s) b d1 := by
  have := hc.as; have := hc.sm; have := hc.smid; have := hc.eb
  have e1 : ∀ k, mid ≤ k → k < mid + m - s → d1[k]! = d[k - (mid - s)]! := fun k h1 h2 => by rw [hr k, if_pos (by omega), if_neg (by omega)]; congr 1; omega
  have e2 : ∀ k, mid + m - s ≤ k → d1[k]! = d[k]! := fun k h1 => by rw [hr k, if_neg (by omega)]
  refine ⟨fun i j h1 h2 h3 => ?_, fun i j h1 h2 h3 => ?_, fun i j h1 h2 h3 h4 => ?_⟩
  · rw [e1 i h1 (by omega), e1 j (by omega) h3]; exact h.l _ _ (by omega) (by omega) (by omega)
  · rw [e2 i h1, e2 j (by omega)]; exact h.r _ _ (by omega) h2 h3
  · rw [e1 i h1 h2, e2 j h3]; exact h.lr _ _ (by omega) (by omega) (by omega) h4
theorem Two.cross (hS : SWO T) (h : Two T L a m b d) (hc : Cut T a m b mid s d) (hr : Rotated s m (mid + m - s) d d1) : ∀ p q, a ≤ p → p < mid → mid ≤ q → q < b → T d1[q]! d1[p]! = false := by
  have := hc.as; have := hc.sm; have := hc.smid; have := hc.eb
  have e1 : ∀ k, k < s → d1[k]! = d[k]! := fun k hk => by rw [hr k, if_neg (by omega)]
  have e2 : ∀ k, s ≤ k → k < mid → d1[k]! = d[k + (m - s)]! := fun k h1 h2 => by rw [hr k, if_pos (by omega), if_pos (by omega)]
  have e3 : ∀ k, mid ≤ k → k < mid + m - s → d1[k]! = d[k - (mid - s)]! := fun k h1 h2 => by rw [hr k, if_pos (by omega), if_neg (by omega)]; congr 1; omega
  have e4 : ∀ k, mid + m - s ≤ k → d1[k]! = d[k]! := fun k h1 => by rw [hr k, if_neg (by omega)]
  intro p q h1 h2 h3 h4
  by_cases cp : p < s
  · rw [e1 p cp]
    by_cases cq : q < mid + m - s
    · rw [e3 q h3 cq]; exact h.l _ _ h1 (by omega) (by omega)
    · rw [e4 q (by omega)]
      rcases hc.lo with e | e | e
      · omega
      · omega
      · refine hS.ntrans _ d[mid + m - s]! _ (swo_chain hS h.r (by omega) (by omega) h4) (hS.ntrans _ d[s - 1]! _ e (swo_chain hS h.l h1 (by omega) (by omega)))
  · rw [e2 p (by omega) h2]
    by_cases cq : q < mid + m - s
    · rw [e3 q h3 cq]
      rcases hc.hi with e | e | e
      · omega
      · omega
      · refine hS.ntrans _ d[s]! _ (swo_chain hS h.l (by omega) (by omega) (by omega)) (hS.ntrans _ d[mid + m - 1 - s]! _ (hS.asymmA e) (swo_chain hS h.r (by omega) (by omega) (by omega)))
    · rw [e4 q (by omega)]; exact h.r _ _ (by omega) (by omega) h4
/-- Both halves sorted, and the one behind the other. -/
theorem halves {d2 d3 : Array α} (hb : b ≤ d1.size) (hmb : mid ≤ b) (hx : ∀ p q, a ≤ p → p < mid → mid ≤ q → q < b → T d1[q]! d1[p]! = false) (p2 : PermIn a mid d1 d2) (s2 : SortedIn T a mid d2) (p3 : PermIn mid b d2 d3) (s3 : SortedIn T mid b d3) : SortedIn T a b d3 := by
  have f1 : ∀ k, k < mid → d3[k]! = d2[k]! := fun k hk => p3.2.1 k (.inl hk)
  have hz2 := p2.1
  have hx2 : ∀ q, mid ≤ q → q < b → ∀ p, a ≤ p → p < mid → T d2[q]! d2[p]! = false := fun q hq1 hq2 => by
    have e : d2[q]! = d1[q]! := p2.2.1 q (.inr hq1)
    rw [e]
    exact permIn_all d1 d2 a mid (fun x => T d1[q]! x = false) (by omega) p2 fun i h1 h2 => hx i q h1 h2 hq1 hq2
  have hx3 : ∀ p, a ≤ p → p < mid → ∀ q, mid ≤ q → q < b → T d3[q]! d3[p]! = false := fun p hp1 hp2 => by
    rw [f1 p hp2]
    exact permIn_all d2 d3 mid b (fun x => T x d2[p]! = false) (by omega) p3 fun i h1 h2 => hx2 i h1 h2 p hp1 hp2
  intro i j h1 h2 h3
  by_cases c : j < mid
  · rw [f1 i (by omega), f1 j c]; exact s2 i j h1 h2 c
  · by_cases c2 : i < mid
    · exact hx3 i h1 c2 j (by omega) h3
    · exact s3 i j (by omega) h2 h3
/-- A whole block that is merged stays merged where others are permuted. -/
theorem Two.keep {d' : Array α} (h : Two T L a m b d) (he : ∀ k, a ≤ k → k < b → d'[k]! = d[k]!) (ham : a ≤ m) (hmb : m ≤ b) : Two T L a m b d' :=
  ⟨sorted_at h.l fun k h1 h2 => he k h1 (by omega), sorted_at h.r fun k h1 h2 => he k (by omega) h2, fun i j h1 h2 h3 h4 => by rw [he i h1 (by omega), he j (by omega) h4]; exact h.lr i j h1 h2 h3 h4⟩
/-- The exchange of two blocks of n, element by element: behind i of them. -/
def Crossed (a b i : Nat) (d d' : Array α) : Prop := ∀ k, d'[k]! = if a ≤ k ∧ k < a + i then d[k + b - a]! else if b ≤ k ∧ k < b + i then d[k + a - b]! else d[k]!
theorem Crossed.zero (a b : Nat) (d : Array α) : Crossed a b 0 d d := fun k => by rw [if_neg (by omega), if_neg (by omega)]
theorem Crossed.step {a b i n : Nat} {d d' : Array α} (h : Crossed a b i d d') (hab : a + n ≤ b) (hi : i < n) (hz : d'.size = d.size) (hs : b + n ≤ d.size) : Crossed a b (i + 1) d (swp d' (a + i) (b + i)) := fun k => by
  rw [swp_get d' (by omega) (by omega)]
  have ea := h (a + i)
  have eb := h (b + i)
  rw [if_neg (by omega), if_neg (by omega)] at ea
  rw [if_neg (by omega), if_neg (by omega)] at eb
  by_cases c1 : k = b + i
  · rw [if_pos c1, if_neg (by omega), if_pos (by omega), ea]; congr 1; omega
  · rw [if_neg c1]
    by_cases c2 : k = a + i
    · rw [if_pos c2, if_pos (by omega), eb]; congr 1; omega
    · rw [if_neg c2, h k]
      by_cases c3 : a ≤ k ∧ k < a + i
      · rw [if_pos c3, if_pos (by omega)]
      · rw [if_neg c3]
        by_cases c4 : b ≤ k ∧ k < b + i
        · rw [if_pos c4, if_neg (by omega), if_pos (by omega)]
        · rw [if_neg c4, if_neg (by omega), if_neg (by omega)]
/-- One step of the rotation where the left block is the longer one: its first j are exchanged with the right block. -/
theorem Rotated.left {m i j : Nat} {d d1 d2 : Array α} (hj : j < i) (him : i ≤ m) (hc : Crossed (m - i) m j d d1) (hr : Rotated (m - (i - j)) m (m + j) d1 d2) : Rotated (m - i) m (m + j) d d2 := fun k => by
  rw [hr k]
  by_cases c1 : m - i ≤ k ∧ k < m + j
  · rw [if_pos c1]
    by_cases c2 : k < m - i + (m + j - m)
    · rw [if_pos c2, if_neg (by omega), hc k, if_pos (by omega)]; congr 1; omega
    · rw [if_neg c2, if_pos (by omega)]
      by_cases c3 : k < m - (i - j) + (m + j - m)
      · rw [if_pos c3, hc, if_neg (by omega)]
        by_cases c4 : m ≤ k + (m - (m - (i - j)))
        · rw [if_pos (by omega)]; congr 1; omega
        · omega
      · rw [if_neg c3, hc, if_neg (by omega), if_neg (by omega)]
  · rw [if_neg c1, if_neg (by omega), hc, if_neg (by omega), if_neg (by omega)]
theorem Rotated.right {m i j : Nat} {d d1 d2 : Array α} (hj : i < j) (him : i ≤ m) (hc : Crossed (m - i) (m + j - i) i d d1) (hr : Rotated (m - i) m (m + (j - i)) d1 d2) : Rotated (m - i) m (m + j) d d2 := fun k => by
  rw [hr k]
  by_cases c1 : m - i ≤ k ∧ k < m + j
  · rw [if_pos c1]
    by_cases c2 : k < m - i + (m + j - m)
    · rw [if_pos c2]
      by_cases c3 : k < m - i + (m + (j - i) - m)
      · rw [if_pos (by omega), if_pos c3, hc]
        by_cases c5 : k + (m - (m - i)) < m
        · omega
        · rw [if_neg (by omega), if_neg (by omega)]
      · by_cases c6 : k < m + (j - i)
        · rw [if_pos (by omega), if_neg c3, hc, if_pos (by omega)]; congr 1; omega
        · rw [if_neg (by omega), hc, if_neg (by omega)]
          omega
    · rw [if_neg c2, if_neg (by omega), hc, if_neg (by omega), if_pos (by omega)]; congr 1; omega
  · rw [if_neg c1, if_neg (by omega), hc, if_neg (by omega), if_neg (by omega)]
theorem Rotated.both {m i : Nat} {d d1 : Array α} (him : i ≤ m) (hc : Crossed (m - i) m i d d1) : Rotated (m - i) m (m + i) d d1 := fun k => by
  rw [hc k]
  by_cases c1 : m - i ≤ k ∧ k < m + i
  · rw [if_pos c1]
    by_cases c2 : k < m - i + (m + i - m)
    · rw [if_pos (by omega), if_pos c2]; congr 1; omega
    · rw [if_neg (by omega), if_neg c2, if_pos (by omega)]; congr 1; omega
  · rw [if_neg c1, if_neg (by omega), if_neg (by omega)]
end Go.Proofs.Ytdgnengfcabgjaa
namespace Go.Proofs.Ytdgnengfcabgjaa
open Go.Sort
variable {α : Type} [Inhabited α] {T : α → α → Bool} {L : α → α → Prop}

/-- Sorted wherever no bound stands between; across a bound in their first order. -/
structure BdSt (T : α → α → Bool) (L : α → α → Prop) (n : Nat) (Bd : Nat → Prop) (d : Array α) : Prop where
  across : ∀ x, Bd x → ∀ p q, p < x → x ≤ q → q < n → L d[p]! d[q]!
  within : ∀ p q, p < q → q < n → (∀ x, Bd x → p < x → x ≤ q → False) → T d[q]! d[p]! = false
theorem BdSt.start {n : Nat} {d : Array α} (hL : ∀ i j, i < j → j < n → L d[i]! d[j]!) : BdSt T L n (fun _ => True) d :=
  ⟨fun _ _ p q h1 h2 h3 => hL p q (by omega) h3, fun p q h1 _ h3 => (h3 q trivial h1 (Nat.le_refl _)).elim⟩
theorem BdSt.turn {n : Nat} {Bd Bd' : Nat → Prop} {d : Array α} (h : BdSt T L n Bd d) (h1 : ∀ x, x < n → Bd' x → Bd x) (h2 : ∀ x, x < n → Bd x → Bd' x) : BdSt T L n Bd' d :=
  ⟨fun x hx p q a b c => h.across x (h1 x (by omega) hx) p q a b c, fun p q a b c => h.within p q a b fun x hx u v => c x (h2 x (by omega) hx) u v⟩
/-- A part between two bounds is sorted as a whole: the bounds within it are gone. -/
theorem BdSt.step {n a b : Nat} {Bd Bd' : Nat → Prop} {d d' : Array α} (h : BdSt T L n Bd d) (hn : n ≤ d.size) (_hab : a ≤ b) (hbn : b ≤ n) (hp : PermIn a b d d') (hs : SortedIn T a b d')
    (h1 : ∀ x, x < n → Bd' x → Bd x ∧ (x ≤ a ∨ b ≤ x)) (h2 : ∀ x, x < n → Bd x → Bd' x ∨ (a < x ∧ x < b)) (ha : a = 0 ∨ Bd' a) (hb : b = n ∨ Bd' b) : BdSt T L n Bd' d' := by
  have out : ∀ k, k < a ∨ b ≤ k → d'[k]! = d[k]! := hp.2.1
  refine ⟨fun x hx p q hpx hxq hq => ?_, fun p q hpq hq hno => ?_⟩
  · obtain ⟨hB, hx'⟩ := h1 x (by omega) hx
    rcases hx' with hx' | hx'
    · rw [out p (.inl (by omega))]
      by_cases hqb : a ≤ q ∧ q < b
      · exact permIn_all d d' a b (fun y => L d[p]! y) (by omega) hp (fun i i1 i2 => h.across x hB p i hpx (by omega) (by omega)) q hqb.1 hqb.2
      · rw [out q (by omega)]; exact h.across x hB p q hpx hxq hq
    · rw [out q (.inr (by omega))]
      by_cases hpb : a ≤ p ∧ p < b
      · exact permIn_all d d' a b (fun y => L y d[q]!) (by omega) hp (fun i i1 i2 => h.across x hB i q (by omega) hxq hq) p hpb.1 hpb.2
      · rw [out p (by omega)]; exact h.across x hB p q hpx hxq hq
  · by_cases cq : q < a
    · rw [out q (.inl cq), out p (.inl (by omega))]
      refine h.within p q hpq hq fun x hx u v => ?_
      rcases h2 x (by omega) hx with h3 | h3
      · exact hno x h3 u v
      · omega
    · by_cases cp : b ≤ p
      · rw [out q (.inr (by omega)), out p (.inr cp)]
        refine h.within p q hpq hq fun x hx u v => ?_
        rcases h2 x (by omega) hx with h3 | h3
        · exact hno x h3 u v
        · omega
      · by_cases cp2 : p < a
        · rcases ha with ha | ha
          · omega
          · exact (hno a ha cp2 (by omega)).elim
        · by_cases cq2 : b ≤ q
          · rcases hb with hb | hb
            · omega
            · exact (hno b hb (by omega) cq2).elim
          · exact hs p q (by omega) hpq (by omega)
theorem BdSt.sorted {n a b : Nat} {Bd : Nat → Prop} {d : Array α} (h : BdSt T L n Bd d) (hbn : b ≤ n) (hno : ∀ x, x < n → Bd x → a < x → x < b → False) : SortedIn T a b d := fun i j h1 h2 h3 =>
  h.within i j h2 (by omega) fun x hx u v => hno x (by omega) hx (by omega) (by omega)
theorem BdSt.two {n a m b : Nat} {Bd : Nat → Prop} {d : Array α} (h : BdSt T L n Bd d) (hbn : b ≤ n) (hamb : a ≤ m ∧ m ≤ b) (hm : Bd m) (h1 : ∀ x, x < n → Bd x → a < x → x < m → False) (h2 : ∀ x, x < n → Bd x → m < x → x < b → False) : Two T L a m b d :=
  ⟨h.sorted (by omega) h1, h.sorted hbn h2, fun i j i1 i2 j1 j2 => h.across m hm i j i2 j1 (by omega)⟩
-- multiples
theorem mul_between {s a x : Nat} (ha : s ∣ a) (hx : s ∣ x) (h1 : a < x) (h2 : x < a + s) : False := by
  obtain ⟨i, rfl⟩ := ha
  obtain ⟨j, rfl⟩ := hx
  have h3 : i < j := Nat.lt_of_mul_lt_mul_left h1
  have h4 : s * j < s * (i + 1) := by rw [Nat.mul_add, Nat.mul_one]; exact h2
  have h5 : j < i + 1 := Nat.lt_of_mul_lt_mul_left h4
  omega
theorem mul_mid {s a x : Nat} (ha : s ∣ a) (hx : s ∣ x) (h1 : a < x) (h2 : x < a + 2 * s) : x = a + s := by
  rcases Nat.lt_trichotomy x (a + s) with h | h | h
  · exact (mul_between ha hx h1 h).elim
  · exact h
  · exact (mul_between (Nat.dvd_add ha (Nat.dvd_refl s)) hx h (by omega)).elim
/-- The bounds while blocks of s are sorted, up to a. -/
def BdI (s a x : Nat) : Prop := x ≤ a → s ∣ x
/-- The bounds while blocks of s are merged, up to a. -/
def BdM (s a x : Nat) : Prop := s ∣ x ∧ (x ≤ a → 2 * s ∣ x)
variable {n s a : Nat} {d d' : Array α}
theorem BdSt.ins (h : BdSt T L n (BdI s a) d) (hn : n ≤ d.size) (ha : s ∣ a) (hb : a + s ≤ n) (hp : PermIn a (a + s) d d') (hs : SortedIn T a (a + s) d') : BdSt T L n (BdI s (a + s)) d' := by
  refine h.step hn (by omega) hb hp hs (fun x hxn hx => ⟨fun hxa => hx (by omega), ?_⟩) (fun x hxn hx => ?_) (.inr fun _ => ha) (.inr fun _ => Nat.dvd_add ha (Nat.dvd_refl s))
  · by_cases h1 : x ≤ a
    · exact .inl h1
    · by_cases h2 : a + s ≤ x
      · exact .inr h2
      · exact (mul_between ha (hx (by omega)) (by omega) (by omega)).elim
  · by_cases h1 : a < x ∧ x < a + s
    · exact .inr h1
    · refine .inl fun h2 => ?_
      by_cases h3 : x ≤ a
      · exact hx h3
      · obtain rfl : x = a + s := by omega
        exact Nat.dvd_add ha (Nat.dvd_refl s)
theorem BdSt.insLast (h : BdSt T L n (BdI s a) d) (hn : n ≤ d.size) (ha : s ∣ a) (hb : n < a + s) (han : a ≤ n) (hp : PermIn a n d d') (hs : SortedIn T a n d') : BdSt T L n (fun x => s ∣ x) d' := by
  refine h.step hn han (Nat.le_refl _) hp hs (fun x hxn hx => ⟨fun _ => hx, ?_⟩) (fun x hxn hx => ?_) (.inr ha) (.inl rfl)
  · by_cases h1 : x ≤ a
    · exact .inl h1
    · exact (mul_between ha hx (by omega) (by omega)).elim
  · by_cases h1 : x ≤ a
    · exact .inl (hx h1)
    · exact .inr ⟨by omega, hxn⟩
theorem BdSt.insFirst (h : BdSt T L n (fun _ => True) d) : BdSt T L n (BdI s 0) d := h.turn (fun _ _ _ => trivial) fun x _ _ => fun h => by
  obtain rfl : x = 0 := by omega
  exact Nat.dvd_zero s
theorem BdSt.merFirst (h : BdSt T L n (fun x => s ∣ x) d) : BdSt T L n (BdM s 0) d := h.turn (fun _ _ hx => hx.1) fun x _ hx => ⟨hx, fun h => by
  obtain rfl : x = 0 := by omega
  exact Nat.dvd_zero _⟩
theorem dvd_two {s a : Nat} (h : 2 * s ∣ a) : s ∣ a := Nat.dvd_trans ⟨2, by omega⟩ h
theorem BdSt.merTwo (h : BdSt T L n (BdM s a) d) (ha : 2 * s ∣ a) (h0 : 0 < s) {b : Nat} (hb : b ≤ n) (hm : a + s ≤ b) (hb2 : b ≤ a + 2 * s) : Two T L a (a + s) b d := by
  have ha' := dvd_two ha
  refine h.two hb ⟨by omega, hm⟩ ⟨Nat.dvd_add ha' (Nat.dvd_refl s), fun h => by omega⟩ (fun x _ hx h1 h2 => mul_between ha' hx.1 h1 h2) (fun x _ hx h1 h2 => ?_)
  exact mul_between (Nat.dvd_add ha' (Nat.dvd_refl s)) hx.1 h1 (by omega)
theorem BdSt.mer (h : BdSt T L n (BdM s a) d) (hn : n ≤ d.size) (ha : 2 * s ∣ a) (hb : a + 2 * s ≤ n) (hp : PermIn a (a + 2 * s) d d') (hs : SortedIn T a (a + 2 * s) d') : BdSt T L n (BdM s (a + 2 * s)) d' := by
  have ha' := dvd_two ha
  refine h.step hn (by omega) hb hp hs (fun x hxn hx => ⟨⟨hx.1, fun hxa => hx.2 (by omega)⟩, ?_⟩) (fun x hxn hx => ?_) (.inr ⟨ha', fun _ => ha⟩) (.inr ⟨Nat.dvd_add ha' ⟨2, by omega⟩, fun _ => Nat.dvd_add ha (Nat.dvd_refl _)⟩)
  · by_cases h1 : x ≤ a
    · exact .inl h1
    · by_cases h2 : a + 2 * s ≤ x
      · exact .inr h2
      · exact (mul_between ha (hx.2 (by omega)) (by omega) (by omega)).elim
  · by_cases h1 : a < x ∧ x < a + 2 * s
    · exact .inr h1
    · refine .inl ⟨hx.1, fun h2 => ?_⟩
      by_cases h3 : x ≤ a
      · exact hx.2 h3
      · obtain rfl : x = a + 2 * s := by omega
        exact Nat.dvd_add ha (Nat.dvd_refl _)
theorem BdSt.merLast (h : BdSt T L n (BdM s a) d) (hn : n ≤ d.size) (ha : 2 * s ∣ a) (hb : n < a + 2 * s) (han : a ≤ n) (hp : PermIn a n d d') (hs : SortedIn T a n d') : BdSt T L n (fun x => 2 * s ∣ x) d' := by
  refine h.step hn han (Nat.le_refl _) hp hs (fun x hxn hx => ⟨⟨dvd_two hx, fun _ => hx⟩, ?_⟩) (fun x hxn hx => ?_) (.inr ha) (.inl rfl)
  · by_cases h1 : x ≤ a
    · exact .inl h1
    · exact (mul_between ha hx (by omega) (by omega)).elim
  · by_cases h1 : x ≤ a
    · exact .inl (hx.2 h1)
    · exact .inr ⟨by omega, hxn⟩
theorem BdSt.merNone (h : BdSt T L n (BdM s a) d) (hn : n ≤ d.size) (ha : 2 * s ∣ a) (h0 : 0 < s) (hb : n ≤ a + s) (han : a ≤ n) : BdSt T L n (fun x => 2 * s ∣ x) d := by
  have ha' := dvd_two ha
  exact h.merLast hn ha (by omega) han (permIn_refl _ _ _) (h.sorted (Nat.le_refl _) fun x hxn hx h1 h2 => mul_between ha' hx.1 h1 (by omega))
theorem BdSt.done (h : BdSt T L n (fun x => s ∣ x) d) (hs : n ≤ s) : SortedIn T 0 n d := h.sorted (Nat.le_refl _) fun x hxn hx h1 _ => by
  have := Nat.le_of_dvd h1 hx
  omega
end Go.Proofs.Ytdgnengfcabgjaa
