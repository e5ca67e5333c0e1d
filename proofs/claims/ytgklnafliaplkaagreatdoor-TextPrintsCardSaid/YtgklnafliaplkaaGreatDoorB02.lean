/-
  More of the order of documents.
  No string is not a number.
  slices.BinarySearch in rising strings: how many are less.
  A document handed over as a value.
  Documents that a call has made: in blocks of their own, each met once.
  Kids, cut in two.
-/
import Derived.Test.YtgklnafliaplkaaGreatDoorB01
import Derived.WalkLawsBesides
import Derived.Test.YtgklnafliaplkaaGreatDoorProg
import Derived.Lib.Hide
import Derived.StillTailTactics
import Derived.IntWalk
import Derived.Maps.AppendAt
import Derived.Deep.AppendLies
namespace Go.Proofs.YtgklnafliaplkaaGreatDoor
open Go.RowKit

theorem scmp_lt {x y : ByteArray} (h : scmp x y = -1) : Op.bytesLess x.toList y.toList = true := by
  rw [less_compare, ByteArray.toList_eq, ByteArray.toList_eq]; simpa [scmp] using h
theorem scmp_nlt {x y : ByteArray} (h : scmp x y ≠ -1) : Op.bytesLess x.toList y.toList = false := by
  rw [less_compare, ByteArray.toList_eq, ByteArray.toList_eq]; simpa [scmp] using h
theorem scmp_eq {x y : ByteArray} (h : scmp x y = 0) : (x.toList == y.toList) = true := by
  rw [ByteArray.toList_eq, ByteArray.toList_eq, beq_iff_eq]; exact (eq_compare _ _).1 h
theorem scmp_ne {x y : ByteArray} (h : scmp x y ≠ 0) : (x.toList == y.toList) = false := by
  rw [ByteArray.toList_eq, ByteArray.toList_eq, beq_eq_false_iff_ne]; exact fun hh => h ((eq_compare _ _).2 hh)
theorem cmps_end {xs ys : List D} {k : Nat} (h1 : xs.length ≤ k) (h2 : ys.length ≤ k) : D.cmps (xs.drop k) (ys.drop k) = 0 := by
  rw [List.drop_eq_nil_of_le h2, List.drop_eq_nil_of_le h1]; simp [D.cmps]
theorem cmps_same {xs ys : List D} {k : Nat} (h1 : k < xs.length) (h2 : k < ys.length) (h : D.cmp xs[k] ys[k] = 0) : D.cmps (xs.drop k) (ys.drop k) = D.cmps (xs.drop (k + 1)) (ys.drop (k + 1)) := by
  rw [List.drop_eq_getElem_cons h1, List.drop_eq_getElem_cons h2]; simp [D.cmps, orI, h]
theorem cmps_apart {xs ys : List D} {k : Nat} (h1 : k < xs.length) (h2 : k < ys.length) (h : D.cmp xs[k] ys[k] ≠ 0) : D.cmps (xs.drop k) (ys.drop k) = D.cmp xs[k] ys[k] := by
  rw [List.drop_eq_getElem_cons h1, List.drop_eq_getElem_cons h2]; simp [D.cmps, orI, h]
theorem D.cmp_eq (d d' : D) : D.cmp d d' = orI (D.root d d') (D.cmps d.kids d'.kids) := by
  obtain ⟨_, _, _, _, _⟩ := d; obtain ⟨_, _, _, _, _⟩ := d'; simp only [D.cmp, D.kids]
theorem kcmp_more {xs ys : List ByteArray} {k : Nat} (h1 : k < xs.length) (h2 : ys.length ≤ k) : kcmp (xs.drop k) (ys.drop k) = 1 := by
  rw [List.drop_eq_getElem_cons h1, List.drop_eq_nil_of_le h2]; rfl
theorem kcmp_less {xs ys : List ByteArray} {k : Nat} (h1 : xs.length ≤ k) (h2 : k < ys.length) : kcmp (xs.drop k) (ys.drop k) = -1 := by
  rw [List.drop_eq_getElem_cons h2, List.drop_eq_nil_of_le h1]; rfl
theorem kcmp_end {xs ys : List ByteArray} {k : Nat} (h1 : xs.length ≤ k) (h2 : ys.length ≤ k) : kcmp (xs.drop k) (ys.drop k) = 0 := by
  rw [List.drop_eq_nil_of_le h2, List.drop_eq_nil_of_le h1]; rfl
theorem kcmp_same {xs ys : List ByteArray} {k : Nat} (h1 : k < xs.length) (h2 : k < ys.length) (h : scmp xs[k] ys[k] = 0) : kcmp (xs.drop k) (ys.drop k) = kcmp (xs.drop (k + 1)) (ys.drop (k + 1)) := by
  rw [List.drop_eq_getElem_cons h1, List.drop_eq_getElem_cons h2]; simp [kcmp, h]
theorem kcmp_apart {xs ys : List ByteArray} {k : Nat} (h1 : k < xs.length) (h2 : k < ys.length) (h : scmp xs[k] ys[k] ≠ 0) : kcmp (xs.drop k) (ys.drop k) = scmp xs[k] ys[k] := by
  rw [List.drop_eq_getElem_cons h1, List.drop_eq_getElem_cons h2]; simp [kcmp, h]
theorem D.depth_eq (d : D) : d.depth = D.depths d.kids + 1 := by obtain ⟨_, _, _, _, _⟩ := d; simp [D.depth, D.kids]
end Go.Proofs.YtgklnafliaplkaaGreatDoor
namespace Go.Proofs.YtgklnafliaplkaaGreatDoor
open Go.RowKit
theorem isNaNs_any (x : ByteArray) (w : World) : Calls Tryz.prog 115 #[.string x] w fun e w' => e = .returned (.bool false) ∧ w = w' := by
  go_enter Tryz.func115, Tryz.ntmps115
  go_wp2
  go_ret
  exact ⟨rfl, rfl⟩
end Go.Proofs.YtgklnafliaplkaaGreatDoor
namespace Go.Proofs.YtgklnafliaplkaaGreatDoor
open Go.RowKit

/-- Each is less than the next. -/
def Rising (ks : List ByteArray) : Prop := ∀ (i : Nat) (h : i + 1 < ks.length), scmp ks[i] ks[i + 1] = -1
/-- How many stand ahead of s. -/
def placeOf (ks : List ByteArray) (s : ByteArray) : Nat := (ks.takeWhile fun k => decide (scmp k s = -1)).length
theorem placeOf_le (ks : List ByteArray) (s : ByteArray) : placeOf ks s ≤ ks.length := (List.takeWhile_prefix _).length_le
theorem rising_tail {k : ByteArray} {ks : List ByteArray} (h : Rising (k :: ks)) : Rising ks := fun i hi => by
  have := h (i + 1) (by simpa using hi)
  simpa using this
theorem placeOf_lt : ∀ {ks : List ByteArray} {s : ByteArray}, Rising ks → ∀ (t : Nat) (h : t < ks.length), (scmp ks[t] s = -1 ↔ t < placeOf ks s)
  | [], _, _, t, h => by simp at h
  | k :: ks, s, hr, t, h => by
    unfold placeOf
    by_cases hk : scmp k s = -1
    · rw [List.takeWhile_cons_of_pos (by simpa using hk)]
      cases t with
      | zero => simp [hk]
      | succ t =>
        have := placeOf_lt (rising_tail hr) t (by simpa using h) (s := s)
        simp only [List.getElem_cons_succ, List.length_cons]
        rw [this]; unfold placeOf; omega
    · rw [List.takeWhile_cons_of_neg (by simpa using hk)]
      simp only [List.length_nil, Nat.not_lt_zero, iff_false]
      -- all behind are greater still
      have key : ∀ (t : Nat) (h : t < (k :: ks).length), ¬ scmp (k :: ks)[t] s = -1 := by
        intro t
        induction t with
        | zero => intro _; simpa using hk
        | succ t ih =>
          intro h hc
          exact ih (by omega) (scmp_ordered.trans _ _ _ trivial trivial trivial (hr t (by simpa using h)) hc)
      exact key t h
theorem less_place {ks : List ByteArray} {s : ByteArray} (hr : Rising ks) (t : Nat) (h : t < ks.length) : Op.bytesLess ks[t].toList s.toList = decide (t < placeOf ks s) := by
  have := placeOf_lt (s := s) hr t h
  by_cases hs : scmp ks[t] s = -1
  · rw [scmp_lt hs]; simp [this.1 hs]
  · rw [scmp_nlt hs]
    have : ¬ t < placeOf ks s := fun h => hs (this.2 h)
    simp [this]

theorem less_any (x y : ByteArray) (w : World) : Calls Tryz.prog 98 #[.string x, .string y] w fun e w' => e = .returned (.bool (Op.bytesLess x.toList y.toList)) ∧ w = w' := by
  go_enter Tryz.func98, Tryz.ntmps98
  go_wp2_with (go_at_call 115; refine (isNaNs_any _ _).mono ?_; rintro e w' ⟨rfl, rfl⟩)
  go_ret
  exact ⟨rfl, rfl⟩
theorem isNaN2_any (x : ByteArray) (w : World) : Calls Tryz.prog 99 #[.string x] w fun e w' => e = .returned (.bool false) ∧ w = w' := by
  go_enter Tryz.func99, Tryz.ntmps99
  go_wp2
  go_ret
  exact ⟨rfl, rfl⟩

set_option maxHeartbeats 2000000 in
set_option maxRecDepth 100000 in
theorem search_any {ks : List ByteArray} {s : ByteArray} {v : Value} {w : World} {B : Nat} (hv : Strs w B v ks) (hr : Rising ks) (hn : ks.length ≤ 10000) :
    Calls Tryz.prog 79 #[v, .string s] w fun e w' => ∃ f, e = .returned (.tuple #[.int .i64 (placeOf ks s : Nat), .bool f]) ∧ w = w' := by
  obtain ⟨A, c, rfl, hc, hcells⟩ := hv
  have HC := Lib.hid hcells; have HR := Lib.hid hr
  have hp := placeOf_le ks s
  obtain ⟨p, hpe⟩ : ∃ p, p = placeOf ks s := ⟨_, rfl⟩
  have HP := Lib.hid hpe
  rw [← hpe] at hp ⊢
  clear hcells hr hpe
  go_enter Tryz.func79, Tryz.ntmps79
  go_wp2_with fail
  go_loop [7, 8] (fun a b => ∃ i j : Nat, i ≤ p ∧ p ≤ j ∧ j ≤ ks.length ∧ a = .int .i64 i ∧ b = .int .i64 j) (fun a b => (intOf b).toNat - (intOf a).toNat)
  case atStart => exact ⟨0, ks.length, Nat.zero_le _, hp, Nat.le_refl _, rfl, rfl⟩
  case round =>
    obtain ⟨i, j, h1, h2, h3, rfl, rfl⟩ := hrel
    by_cases hlt : i < j
    · have hw : IntKind.i64.wrap ((i : Int) + (j : Int)) = (i : Int) + (j : Int) := IntWalk.i64_in _ (by omega)
      have hlt2 : (i : Int) < (j : Int) := by omega
      obtain ⟨h, hh⟩ : ∃ h : Nat, h = (i + j) / 2 := ⟨_, rfl⟩
      have hhi : ((i : Int) + (j : Int)) / 2 = (h : Int) := by omega
      have hb1 : i ≤ h := by omega
      have hb2 : h < j := by omega
      have hlen : h < ks.length := by omega
      have hb3 : (h : Int) < (ks.length : Int) := by omega
      have hb4 : (0 : Int) ≤ (h : Int) := by omega
      obtain ⟨b, off, rfl, _, hcx⟩ := HC.out (by omega)
      have gx := hcx h hlen
      have hls := less_place (s := s) HR.out h hlen
      rw [← HP.out] at hls
      clear hcx hh
      by_cases hl : h < p
      · have hls' : Op.bytesLess (ks[h]'hlen).toList s.toList = true := by rw [hls]; simp [hl]
        clear hls
        go_wp2_with (go_at_call 98; refine (less_any _ _ _).mono ?_; rintro e w' ⟨rfl, rfl⟩)
        go_round
        case rel => exact ⟨h + 1, j, by omega, h2, h3, by go_num, rfl⟩
        case measure => simp [intOf]; omega
      · have hls' : Op.bytesLess (ks[h]'hlen).toList s.toList = false := by rw [hls]; simp [hl]
        clear hls
        go_wp2_with (go_at_call 98; refine (less_any _ _ _).mono ?_; rintro e w' ⟨rfl, rfl⟩)
        go_round
        case rel => exact ⟨i, h, h1, by omega, by omega, rfl, rfl⟩
        case measure => simp [intOf]; omega
    · obtain rfl : i = p := by omega
      obtain rfl : j = i := by omega
      clear hlt
      by_cases hend : j < ks.length
      · obtain ⟨b, off, rfl, _, hcx⟩ := HC.out (by omega)
        have gx := hcx j hend
        have hb3 : (j : Int) < (ks.length : Int) := by omega
        have hb4 : (0 : Int) ≤ (j : Int) := by omega
        clear hcx
        cases he : (ks[j].toList == s.toList) with
        | true =>
          go_wp2_with (go_at_call 99; refine (isNaN2_any _ _).mono ?_; rintro e w' ⟨rfl, rfl⟩)
          go_ret2
          first | exact ⟨_, rfl, rfl⟩ | exact ⟨rfl, rfl⟩ | exact ⟨by rfl, by rfl⟩ | (simp [Array.getD]; done)
        | false =>
          go_wp2_with (go_at_call 99; refine (isNaN2_any _ _).mono ?_; rintro e w' ⟨rfl, rfl⟩)
          go_ret2
          first | exact ⟨_, rfl, rfl⟩ | exact ⟨rfl, rfl⟩ | exact ⟨by rfl, by rfl⟩ | (simp [Array.getD]; done)
      · have hb3 : ¬ (j : Int) < (ks.length : Int) := by omega
        go_wp2_with fail
        go_ret2
        first | exact ⟨_, rfl, rfl⟩ | exact ⟨rfl, rfl⟩ | exact ⟨by rfl, by rfl⟩ | (simp [Array.getD]; done)
end Go.Proofs.YtgklnafliaplkaaGreatDoor
namespace Go.Proofs.YtgklnafliaplkaaGreatDoor
open Go.RowKit

/-- A document's five cells as one value. -/
def DocV (w : World) (B : Nat) (d : D) (v : Value) : Prop := ∃ v0 v1 v2 v3 v4, v = .agg #[v0, v1, v2, v3, v4] ∧ DocIn w B d v0 v1 v2 v3 v4
theorem DocV.keep {w w' : World} {B B' : Nat} (hB : B ≤ B') (h : ∀ p : Addr, p.block < B → w'.cell? p = w.cell? p) {d : D} {v : Value} (hd : DocV w B d v) : DocV w' B' d v := by
  obtain ⟨v0, v1, v2, v3, v4, rfl, hd⟩ := hd
  exact ⟨v0, v1, v2, v3, v4, rfl, hd.keep hB h⟩
theorem DocV.below {w w' : World} {B : Nat} {d : D} {v : Value} (h : DocV w B d v) (hb : Below B w w') : DocV w' B d v := DocV.keep (Nat.le_refl _) (fun _ hp => hb.cell hp) h
def D.same (d d' : D) : Bool := decide (D.cmp d d' = 0)
end Go.Proofs.YtgklnafliaplkaaGreatDoor
namespace Go.Proofs.YtgklnafliaplkaaGreatDoor
open Go.RowKit

def blk (v : Value) : List Nat := v.ownBlock.toList
mutual
/-- The five cells of a document of the call's own; F: its blocks. -/
def OwnIn (w : World) (base : Nat) : D → Value → Value → Value → Value → Value → List Nat → Prop
  | .mk kind num str keys kids, v0, v1, v2, v3, v4, F =>
    v0 = .int .i64 kind ∧ v1 = .int .i64 num ∧ v2 = .string str ∧ w.ownsRow base 9 1 v3 keys.length (keys.map Value.string) ∧
      ∃ (cs : List Value) (Fs : List Nat), w.ownsRow base 25 5 v4 kids.length cs ∧ OwnKids w base kids cs Fs ∧ F = blk v3 ++ (blk v4 ++ Fs)
def OwnKids (w : World) (base : Nat) : List D → List Value → List Nat → Prop
  | [], cs, F => cs = [] ∧ F = []
  | d :: r, cs, F => ∃ (v0 v1 v2 v3 v4 : Value) (cs' : List Value) (F1 F2 : List Nat), cs = v0 :: v1 :: v2 :: v3 :: v4 :: cs' ∧ OwnIn w base d v0 v1 v2 v3 v4 F1 ∧ OwnKids w base r cs' F2 ∧ F = F1 ++ F2
end

theorem blk_mem {v : Value} {k : Nat} : k ∈ blk v ↔ v.ownBlock = some k := by unfold blk; cases h : v.ownBlock <;> simp [eq_comm]
theorem ownsRow_same {w w' : World} {base : Nat} {e : TypeId} {size n : Nat} {v : Value} {xs : List Value} (h : w.ownsRow base e size v n xs) (hs : ∀ k, k ∈ blk v → w'.heap[k]? = w.heap[k]?) : w'.ownsRow base e size v n xs := by
  obtain ⟨h1, h2⟩ := h
  refine ⟨h1, ?_⟩
  rcases h2 with h2 | ⟨g, cap, cur, hv, hg, hh, r⟩
  · exact .inl h2
  · exact .inr ⟨g, cap, cur, hv, hg, by rw [hs g (by rw [blk_mem, hv]; rfl)]; exact hh, r⟩
theorem ownsRow_base {w : World} {base base' : Nat} {e : TypeId} {size n : Nat} {v : Value} {xs : List Value} (h : w.ownsRow base e size v n xs) (hs : base' ≤ base) : w.ownsRow base' e size v n xs := by
  obtain ⟨h1, h2⟩ := h
  refine ⟨h1, ?_⟩
  rcases h2 with h2 | ⟨g, cap, cur, hv, hg, hh, r⟩
  · exact .inl h2
  · exact .inr ⟨g, cap, cur, hv, by omega, hh, r⟩
mutual
theorem OwnIn.same {w w' : World} {base base' : Nat} (hb : base' ≤ base) : ∀ {d : D} {v0 v1 v2 v3 v4 : Value} {F : List Nat}, OwnIn w base d v0 v1 v2 v3 v4 F → (∀ k ∈ F, w'.heap[k]? = w.heap[k]?) → OwnIn w' base' d v0 v1 v2 v3 v4 F
  | .mk _ _ _ _ _, _, _, _, _, _, _, h, hs => by
    simp only [OwnIn] at h ⊢
    obtain ⟨h0, h1, h2, h3, cs, Fs, h4, h5, rfl⟩ := h
    exact ⟨h0, h1, h2, ownsRow_base (ownsRow_same h3 fun k hk => hs k (by simp [hk])) hb, cs, Fs, ownsRow_base (ownsRow_same h4 fun k hk => hs k (by simp [hk])) hb, OwnKids.same hb h5 fun k hk => hs k (by simp [hk]), rfl⟩
theorem OwnKids.same {w w' : World} {base base' : Nat} (hb : base' ≤ base) : ∀ {l : List D} {cs : List Value} {F : List Nat}, OwnKids w base l cs F → (∀ k ∈ F, w'.heap[k]? = w.heap[k]?) → OwnKids w' base' l cs F
  | [], _, _, h, _ => by simpa [OwnKids] using h
  | d :: r, _, _, h, hs => by
    simp only [OwnKids] at h ⊢
    obtain ⟨v0, v1, v2, v3, v4, cs', F1, F2, h1, h2, h3, rfl⟩ := h
    exact ⟨v0, v1, v2, v3, v4, cs', F1, F2, h1, OwnIn.same hb h2 fun k hk => hs k (by simp [hk]), OwnKids.same hb h3 fun k hk => hs k (by simp [hk]), rfl⟩
end
mutual
theorem OwnIn.lt {w : World} {base : Nat} : ∀ {d : D} {v0 v1 v2 v3 v4 : Value} {F : List Nat}, OwnIn w base d v0 v1 v2 v3 v4 F → ∀ k ∈ F, base ≤ k ∧ k < w.heap.size
  | .mk _ _ _ _ _, _, _, _, _, _, _, h, k, hk => by
    simp only [OwnIn] at h
    obtain ⟨h0, h1, h2, h3, cs, Fs, h4, h5, rfl⟩ := h
    simp only [List.mem_append, blk_mem] at hk
    rcases hk with hk | hk | hk
    · exact h3.lt k hk
    · exact h4.lt k hk
    · exact OwnKids.lt h5 k hk
theorem OwnKids.lt {w : World} {base : Nat} : ∀ {l : List D} {cs : List Value} {F : List Nat}, OwnKids w base l cs F → ∀ k ∈ F, base ≤ k ∧ k < w.heap.size
  | [], _, _, h, k, hk => by
    simp only [OwnKids] at h
    rw [h.2] at hk; simp at hk
  | d :: r, _, _, h, k, hk => by
    simp only [OwnKids] at h
    obtain ⟨v0, v1, v2, v3, v4, cs', F1, F2, h1, h2, h3, rfl⟩ := h
    rcases List.mem_append.1 hk with hk | hk
    · exact OwnIn.lt h2 k hk
    · exact OwnKids.lt h3 k hk
end
theorem OwnIn.below {w w' : World} {base B : Nat} {d : D} {v0 v1 v2 v3 v4 : Value} {F : List Nat} (h : OwnIn w base d v0 v1 v2 v3 v4 F) (hb : Below B w w') (hB : w.heap.size ≤ B) : OwnIn w' base d v0 v1 v2 v3 v4 F :=
  h.same (Nat.le_refl _) fun k hk => hb.block k (by have := (h.lt k hk).2; omega)
theorem OwnKids.below {w w' : World} {base B : Nat} {l : List D} {cs : List Value} {F : List Nat} (h : OwnKids w base l cs F) (hb : Below B w w') (hB : w.heap.size ≤ B) : OwnKids w' base l cs F :=
  h.same (Nat.le_refl _) fun k hk => hb.block k (by have := (h.lt k hk).2; omega)

theorem OwnIn.make {w : World} {base : Nat} {d : D} {v3 v4 : Value} {cs : List Value} {Fs : List Nat} (h3 : w.ownsRow base 9 1 v3 d.keys.length (d.keys.map Value.string)) (h4 : w.ownsRow base 25 5 v4 d.kids.length cs) (h5 : OwnKids w base d.kids cs Fs) :
    OwnIn w base d (.int .i64 d.kind) (.int .i64 d.num) (.string d.str) v3 v4 (blk v3 ++ (blk v4 ++ Fs)) := by
  obtain ⟨_, _, _, _, _⟩ := d
  simp only [OwnIn]
  exact ⟨rfl, rfl, rfl, h3, cs, Fs, h4, h5, rfl⟩
/-- Kids, with one more at the end. -/
theorem OwnKids.push {w : World} {base : Nat} {x : D} {v0 v1 v2 v3 v4 : Value} {G : List Nat} (hx : OwnIn w base x v0 v1 v2 v3 v4 G) : ∀ {l : List D} {cs : List Value} {F : List Nat}, OwnKids w base l cs F → OwnKids w base (l ++ [x]) (cs ++ [v0, v1, v2, v3, v4]) (F ++ G)
  | [], _, _, h => by
    simp only [OwnKids] at h
    obtain ⟨rfl, rfl⟩ := h
    simp only [List.nil_append, OwnKids]
    exact ⟨v0, v1, v2, v3, v4, [], G, [], rfl, hx, ⟨rfl, rfl⟩, by simp⟩
  | d :: r, _, _, h => by
    simp only [OwnKids] at h
    obtain ⟨u0, u1, u2, u3, u4, cs', F1, F2, rfl, h2, h3, rfl⟩ := h
    simp only [List.cons_append, OwnKids]
    exact ⟨u0, u1, u2, u3, u4, _, F1, F2 ++ G, rfl, h2, OwnKids.push hx h3, by simp⟩

/-- A kid among kids: what is ahead of it, and what is behind. -/
theorem OwnKids.split {w : World} {base : Nat} : ∀ {l : List D} {cs : List Value} {F : List Nat}, OwnKids w base l cs F → ∀ (i : Nat) (h : i < l.length),
    ∃ (v0 v1 v2 v3 v4 : Value) (c1 c2 : List Value) (F1 G F2 : List Nat), cs = c1 ++ (v0 :: v1 :: v2 :: v3 :: v4 :: c2) ∧ c1.length = i * 5 ∧ F = F1 ++ (G ++ F2) ∧ OwnKids w base (l.take i) c1 F1 ∧ OwnIn w base l[i] v0 v1 v2 v3 v4 G ∧ OwnKids w base (l.drop (i + 1)) c2 F2
  | [], _, _, _, i, h => by simp at h
  | d :: r, _, _, hk, 0, _ => by
    simp only [OwnKids] at hk
    obtain ⟨v0, v1, v2, v3, v4, cs', F1, F2, rfl, h2, h3, rfl⟩ := hk
    exact ⟨v0, v1, v2, v3, v4, [], cs', [], F1, F2, rfl, rfl, rfl, by simp [OwnKids], by simpa using h2, by simpa using h3⟩
  | d :: r, _, _, hk, i + 1, h => by
    simp only [OwnKids] at hk
    obtain ⟨u0, u1, u2, u3, u4, cs', F1, F2, rfl, h2, h3, rfl⟩ := hk
    obtain ⟨v0, v1, v2, v3, v4, c1, c2, E1, G, E2, rfl, e1, rfl, k1, k2, k3⟩ := OwnKids.split h3 i (by simpa using h)
    refine ⟨v0, v1, v2, v3, v4, u0 :: u1 :: u2 :: u3 :: u4 :: c1, c2, F1 ++ E1, G, E2, by simp, by simp [e1]; omega, by simp, ?_, by simpa using k2, by simpa using k3⟩
    simp only [List.take_succ_cons, OwnKids]
    exact ⟨u0, u1, u2, u3, u4, c1, F1, E1, rfl, h2, k1, rfl⟩
/-- .. and put together again. -/
theorem OwnKids.join {w : World} {base : Nat} {x : D} {v0 v1 v2 v3 v4 : Value} {G : List Nat} (hx : OwnIn w base x v0 v1 v2 v3 v4 G) {m : List D} {c2 : List Value} {F2 : List Nat} (hm : OwnKids w base m c2 F2) :
    ∀ {l : List D} {c1 : List Value} {F1 : List Nat}, OwnKids w base l c1 F1 → OwnKids w base (l ++ x :: m) (c1 ++ (v0 :: v1 :: v2 :: v3 :: v4 :: c2)) (F1 ++ (G ++ F2))
  | [], _, _, h => by
    simp only [OwnKids] at h
    obtain ⟨rfl, rfl⟩ := h
    simp only [List.nil_append, OwnKids]
    exact ⟨v0, v1, v2, v3, v4, c2, G, F2, rfl, hx, hm, rfl⟩
  | d :: r, _, _, h => by
    simp only [OwnKids] at h
    obtain ⟨u0, u1, u2, u3, u4, cs', E1, E2, rfl, h2, h3, rfl⟩ := h
    simp only [List.cons_append, OwnKids]
    exact ⟨u0, u1, u2, u3, u4, _, E1, E2 ++ (G ++ F2), rfl, h2, OwnKids.join hx hm h3, by simp⟩
theorem OwnKids.append {w : World} {base : Nat} {m : List D} {c2 : List Value} {F2 : List Nat} (hm : OwnKids w base m c2 F2) :
    ∀ {l : List D} {c1 : List Value} {F1 : List Nat}, OwnKids w base l c1 F1 → OwnKids w base (l ++ m) (c1 ++ c2) (F1 ++ F2)
  | [], _, _, h => by
    simp only [OwnKids] at h
    obtain ⟨rfl, rfl⟩ := h
    simpa using hm
  | d :: r, _, _, h => by
    simp only [OwnKids] at h
    obtain ⟨u0, u1, u2, u3, u4, cs', E1, E2, rfl, h2, h3, rfl⟩ := h
    simp only [List.cons_append, OwnKids]
    exact ⟨u0, u1, u2, u3, u4, _, E1, E2 ++ F2, rfl, h2, OwnKids.append hm h3, by simp⟩

theorem Strs_of_own {w : World} {base : Nat} {v : Value} {xs : List ByteArray} (h : w.ownsRow base 9 1 v xs.length (xs.map Value.string)) : Strs w w.heap.size v xs := by
  rcases Nat.eq_zero_or_pos xs.length with h0 | h0
  · rcases h.2 with ⟨rfl, _⟩ | ⟨g, cap, cur, rfl, _, hh, hc, _⟩
    · exact ⟨none, 0, by rw [h0], by omega, fun h => by omega⟩
    · exact ⟨some ⟨g, 0, none⟩, cap, rfl, hc, fun h => by omega⟩
  · obtain ⟨g, cap, rfl, hg, hlt⟩ := h.form h0
    have hc : xs.length ≤ cap := by
      rcases h.2 with ⟨e, _⟩ | ⟨g', cap', cur, e, _, _, hc, _⟩
      · cases e
      · injection e with _ _ e3; omega
    refine ⟨some ⟨g, 0, none⟩, cap, rfl, hc, fun _ => ⟨g, 0, rfl, hlt, fun i hi => ?_⟩⟩
    rw [Nat.zero_add, h.cellAt i (by omega)]
    simp [hi]
mutual
theorem OwnIn.doc {w : World} {base : Nat} : ∀ {d : D} {v0 v1 v2 v3 v4 : Value} {F : List Nat}, OwnIn w base d v0 v1 v2 v3 v4 F → DocIn w w.heap.size d v0 v1 v2 v3 v4
  | .mk _ _ _ keys kids, v0, v1, v2, v3, v4, F, h => by
    simp only [OwnIn] at h
    simp only [DocIn]
    obtain ⟨h0, h1, h2, h3, cs, Fs, h4, h5, rfl⟩ := h
    refine ⟨h0, h1, h2, Strs_of_own h3, ?_⟩
    rcases Nat.eq_zero_or_pos kids.length with hz | hz
    · rcases h4.2 with ⟨rfl, _⟩ | ⟨g, cap, cur, rfl, _, hh, hc, _⟩
      · exact ⟨none, 0, by rw [hz], by omega, fun h => by omega⟩
      · exact ⟨some ⟨g, 0, none⟩, cap, rfl, hc, fun h => by omega⟩
    · obtain ⟨g, cap, rfl, hg, hlt⟩ := h4.form hz
      have hc : kids.length ≤ cap := by
        rcases h4.2 with ⟨e, _⟩ | ⟨g', cap', cur, e, _, _, hc, _⟩
        · cases e
        · injection e with _ _ e3; omega
      refine ⟨some ⟨g, 0, none⟩, cap, rfl, hc, fun _ => ⟨g, 0, rfl, hlt, ?_⟩⟩
      exact OwnKids.kids h5 (i := 0) fun j hj => by
        rw [Nat.zero_mul, Nat.add_zero, Nat.zero_add, h4.cellAt j (by have := h4.1; omega)]
theorem OwnKids.kids {w : World} {base : Nat} {g off : Nat} : ∀ {l : List D} {cs : List Value} {F : List Nat}, OwnKids w base l cs F → ∀ {i : Nat}, (∀ j, j < cs.length → w.cell? ⟨g, off + i * 5 + j, none⟩ = cs[j]?) → KidsIn w w.heap.size g off i l
  | [], _, _, _, _, _ => by simp [KidsIn]
  | d :: r, _, _, h, i, hc => by
    simp only [OwnKids] at h
    obtain ⟨v0, v1, v2, v3, v4, cs', F1, F2, rfl, h2, h3, rfl⟩ := h
    simp only [KidsIn]
    refine ⟨⟨v0, v1, v2, v3, v4, hc 0 (by simp), hc 1 (by simp), hc 2 (by simp), hc 3 (by simp), hc 4 (by simp), OwnIn.doc h2⟩, OwnKids.kids h3 fun j hj => ?_⟩
    have := hc (j + 5) (by simp; omega)
    rw [show off + (i + 1) * 5 + j = off + i * 5 + (j + 5) from by omega, this]
    simp
end

end Go.Proofs.YtgklnafliaplkaaGreatDoor
namespace Go.Proofs.YtgklnafliaplkaaGreatDoor
open Go.RowKit
/-- Kids, cut in two. -/
theorem OwnKids.cut {w : World} {base : Nat} : ∀ {l : List D} {cs : List Value} {F : List Nat}, OwnKids w base l cs F → ∀ (i : Nat), i ≤ l.length →
    ∃ (c1 c2 : List Value) (F1 F2 : List Nat), cs = c1 ++ c2 ∧ c1.length = i * 5 ∧ F = F1 ++ F2 ∧ OwnKids w base (l.take i) c1 F1 ∧ OwnKids w base (l.drop i) c2 F2
  | l, cs, F, hk, 0, _ => ⟨[], cs, [], F, rfl, rfl, rfl, by simp [OwnKids], by simpa using hk⟩
  | [], _, _, _, i + 1, h => by simp at h
  | d :: r, _, _, hk, i + 1, h => by
    simp only [OwnKids] at hk
    obtain ⟨u0, u1, u2, u3, u4, cs', F1, F2, rfl, h2, h3, rfl⟩ := hk
    obtain ⟨c1, c2, E1, E2, rfl, e1, rfl, k1, k2⟩ := OwnKids.cut h3 i (by simpa using h)
    refine ⟨u0 :: u1 :: u2 :: u3 :: u4 :: c1, c2, F1 ++ E1, E2, by simp, by simp [e1]; omega, by simp, ?_, by simpa using k2⟩
    simp only [List.take_succ_cons, OwnKids]
    exact ⟨u0, u1, u2, u3, u4, c1, F1, E1, rfl, h2, k1, rfl⟩
end Go.Proofs.YtgklnafliaplkaaGreatDoor
