/-
  valid: kindOf, between, ranged, fits.
  valid: more.
-/
import Derived.Test.YteecdmceleanjaaGreatDoorB06
import Derived.Test.YteecdmceleanjaaGreatDoorB02
import Derived.Test.YteecdmceleanjaaGreatDoorB01
import Derived.Test.YteecdmceleanjaaGreatDoorB09
import Derived.Deep.RegionHeld3
import Derived.Test.YteecdmceleanjaaGreatDoorB05
namespace Go.Proofs.YteecdmceleanjaaGreatDoor
open Go.RowKit

/-- The variables of a type and of a document. -/
structure TD (w0 w : World) (B : Nat) (t : T) (d : D) (v0 v1 v2 v3 v4 v5 u0 u1 u2 u3 u4 : Value) : Prop where
  bt : Box6 w w0.heap.size v0 v1 v2 v3 v4 v5
  bd : Box5 w (w0.heap.size + 1) u0 u1 u2 u3 u4
  tin : TypeIn w0 B t v0 v1 v2 v3 v4 v5
  din : DocIn w0 B d u0 u1 u2 u3 u4
  bl : Below w0.heap.size w0 w
  sz : w0.heap.size + 2 ≤ w.heap.size
  hB : B ≤ w0.heap.size
section
variable {w0 w w' : World} {B : Nat} {t : T} {d : D} {v0 v1 v2 v3 v4 v5 u0 u1 u2 u3 u4 : Value}
theorem TD.start (hB : B ≤ w0.heap.size) (ht : TypeIn w0 B t v0 v1 v2 v3 v4 v5) (hd : DocIn w0 B d u0 u1 u2 u3 u4) :
    TD w0 ((w0.alloc (.cells #[v0, v1, v2, v3, v4, v5] 26)).alloc (.cells #[u0, u1, u2, u3, u4] 29)) B t d v0 v1 v2 v3 v4 v5 u0 u1 u2 u3 u4 :=
  ⟨(Box6.new w0 _ _ _ _ _ _).alloc _, Box5.new' (by simp) _ _ _ _ _, ht, hd, ((Below.refl _ _).alloc (Nat.le_refl _) _).alloc (by simp) _, by simp, hB⟩
theorem TD.next (h : TD w0 w B t d v0 v1 v2 v3 v4 v5 u0 u1 u2 u3 u4) (hb : Below (w0.heap.size + 2) w w') : TD w0 w' B t d v0 v1 v2 v3 v4 v5 u0 u1 u2 u3 u4 :=
  ⟨h.bt.same (hb.block _ (by omega)), h.bd.same (hb.block _ (by omega)), h.tin, h.din, h.bl.trans (hb.mono (by omega)), by have := h.sz; have := hb.size; omega, h.hB⟩
theorem TD.tv (h : TD w0 w B t d v0 v1 v2 v3 v4 v5 u0 u1 u2 u3 u4) : TypeV w B t (.agg #[v0, v1, v2, v3, v4, v5]) := ⟨_, _, _, _, _, _, rfl, h.tin.keep (Nat.le_refl _) fun p hp => h.bl.cell (p := p) (by have := h.hB; omega)⟩
theorem TD.dv (h : TD w0 w B t d v0 v1 v2 v3 v4 v5 u0 u1 u2 u3 u4) : DocV w B d (.agg #[u0, u1, u2, u3, u4]) := ⟨_, _, _, _, _, rfl, h.din.keep (Nat.le_refl _) fun p hp => h.bl.cell (p := p) (by have := h.hB; omega)⟩
theorem TD.le (h : TD w0 w B t d v0 v1 v2 v3 v4 v5 u0 u1 u2 u3 u4) : B ≤ w.heap.size := by have := h.sz; have := h.hB; omega
end
def kindV (t : T) : Int := if t.kind = 1 then 1 else if t.kind = 2 then 2 else if t.kind = 3 then 3 else if t.kind = 4 then 4 else if t.kind = 5 then 5 else 6
set_option maxHeartbeats 2000000 in
set_option maxRecDepth 100000 in
theorem kindOf_any {t : T} {v : Value} {w : World} {B : Nat} (ht : TypeV w B t v) :
    Calls Tryz.prog 75 #[v] w fun e w' => e = .returned (.int .i64 (kindV t)) ∧ Below w.heap.size w w' := by
  obtain ⟨v0, v1, v2, v3, v4, v5, rfl, hd⟩ := ht
  obtain ⟨A3, c3, A4, c4, A5, c5, rfl, rfl, rfl, rfl, rfl, rfl⟩ := hd.forms
  clear hd
  have e : kindV t = if t.kind = 1 then 1 else if t.kind = 2 then 2 else if t.kind = 3 then 3 else if t.kind = 4 then 4 else if t.kind = 5 then 5 else 6 := rfl
  have E := Lib.hid e; clear e
  generalize t.kind = k at *
  by_cases k1 : k = 1
  · subst k1
    go_enter Tryz.func75, Tryz.ntmps75
    go_wp2_with fail
    go_ret
    exact ⟨ret_int (by rw [E.out]; rfl), (Below.refl _ _).alloc (Nat.le_refl _) _⟩
  by_cases k2 : k = 2
  · subst k2
    go_enter Tryz.func75, Tryz.ntmps75
    go_wp2_with fail
    go_ret
    exact ⟨ret_int (by rw [E.out]; rfl), (Below.refl _ _).alloc (Nat.le_refl _) _⟩
  by_cases k3 : k = 3
  · subst k3
    go_enter Tryz.func75, Tryz.ntmps75
    go_wp2_with fail
    go_ret
    exact ⟨ret_int (by rw [E.out]; rfl), (Below.refl _ _).alloc (Nat.le_refl _) _⟩
  by_cases k4 : k = 4
  · subst k4
    go_enter Tryz.func75, Tryz.ntmps75
    go_wp2_with fail
    go_ret
    exact ⟨ret_int (by rw [E.out]; rfl), (Below.refl _ _).alloc (Nat.le_refl _) _⟩
  by_cases k5 : k = 5
  · subst k5
    go_enter Tryz.func75, Tryz.ntmps75
    go_wp2_with fail
    go_ret
    exact ⟨ret_int (by rw [E.out]; rfl), (Below.refl _ _).alloc (Nat.le_refl _) _⟩
  have E6 : Hid (kindV t = 6) := Lib.hid (by rw [E.out, if_neg k1, if_neg k2, if_neg k3, if_neg k4, if_neg k5])
  have g1 : (k == 1) = false := by simp [k1]
  have g2 : (k == 2) = false := by simp [k2]
  have g3 : (k == 3) = false := by simp [k3]
  have g4 : (k == 4) = false := by simp [k4]
  have g5 : (k == 5) = false := by simp [k5]
  clear k1 k2 k3 k4 k5 E
  go_enter Tryz.func75, Tryz.ntmps75
  go_wp2_with fail
  go_ret
  exact ⟨ret_int E6.out.symm, (Below.refl _ _).alloc (Nat.le_refl _) _⟩
def betweenB (t : T) (n : Int) : Bool := decide (t.lo ≤ n) && decide (n ≤ t.hi)
set_option maxHeartbeats 2000000 in
set_option maxRecDepth 100000 in
theorem between_any {t : T} {v : Value} {n : Int} {w : World} {B : Nat} (ht : TypeV w B t v) :
    Calls Tryz.prog 113 #[v, .int .i64 n] w fun e w' => e = .returned (.bool (betweenB t n)) ∧ Below w.heap.size w w' := by
  obtain ⟨v0, v1, v2, v3, v4, v5, rfl, hd⟩ := ht
  obtain ⟨A3, c3, A4, c4, A5, c5, rfl, rfl, rfl, rfl, rfl, rfl⟩ := hd.forms
  clear hd
  have e : betweenB t n = (decide (t.lo ≤ n) && decide (n ≤ t.hi)) := rfl
  have E := Lib.hid e; clear e
  by_cases h1 : t.lo ≤ n
  · by_cases h2 : n ≤ t.hi
    · have E2 : Hid (betweenB t n = true) := Lib.hid (by rw [E.out]; simp [h1, h2])
      go_enter Tryz.func113, Tryz.ntmps113
      go_wp2_with fail
      go_ret
      exact ⟨ret_bool E2.out.symm, (Below.refl _ _).alloc (Nat.le_refl _) _⟩
    · have E2 : Hid (betweenB t n = false) := Lib.hid (by rw [E.out]; simp [h2])
      go_enter Tryz.func113, Tryz.ntmps113
      go_wp2_with fail
      go_ret
      exact ⟨ret_bool E2.out.symm, (Below.refl _ _).alloc (Nat.le_refl _) _⟩
  · have E2 : Hid (betweenB t n = false) := Lib.hid (by rw [E.out]; simp [h1])
    go_enter Tryz.func113, Tryz.ntmps113
    go_wp2_with fail
    go_ret
    exact ⟨ret_bool E2.out.symm, (Below.refl _ _).alloc (Nat.le_refl _) _⟩

theorem contains_any (xs : List ByteArray) (v : Value) (x : ByteArray) (B : Nat) (w : World) (hv : Strs w B v xs) (hl : xs.length ≤ 10000) :
    Calls Tryz.prog 114 #[v, .string x] w fun e w' => e = .returned (.bool (Lib.containsS xs x)) ∧ w' = w := by
  obtain ⟨A, c, rfl, hc1, hc2⟩ := hv
  rcases Nat.eq_zero_or_pos xs.length with h0 | h0
  · obtain rfl : xs = [] := List.eq_nil_of_length_eq_zero h0
    exact (Tryz.slices_Contains_string_empty A c x w).mono fun e w' h => ⟨h.1, h.2⟩
  · obtain ⟨b, off, rfl, _, hc⟩ := hc2 h0
    refine (Tryz.slices_Contains_string b off xs.length c xs x w (Nat.le_refl _) (by omega) fun j hj => ?_).mono fun e w' h => ⟨by rw [h.1, List.take_length], h.2⟩
    rw [hc j hj]; simp [hj]
def rangedV (t : T) (d : D) : Bool :=
  if t.kind = 2 ∨ t.kind = 3 then betweenB t d.kids.length else if t.kind = 4 then betweenB t d.num else if t.kind = 6 then betweenB t d.str.size else if t.kind = 7 then Lib.containsS t.names d.str else true
set_option maxHeartbeats 4000000 in
set_option maxRecDepth 100000 in
theorem ranged_any {t : T} {d : D} {v u : Value} {w : World} {B : Nat} (hf : t.Fit) (hfd : d.Fit) (hB : B ≤ w.heap.size) (ht : TypeV w B t v) (hd : DocV w B d u) :
    Calls Tryz.prog 76 #[v, u] w fun e w' => e = .returned (.bool (rangedV t d)) ∧ Below w.heap.size w w' := by
  obtain ⟨v0, v1, v2, v3, v4, v5, rfl, ht⟩ := ht
  obtain ⟨u0, u1, u2, u3, u4, rfl, hd⟩ := hd
  have hns := ht.names_
  have ST := Lib.hid (TD.start hB ht hd)
  obtain ⟨A3, c3, A4, c4, A5, c5, rfl, rfl, rfl, rfl, rfl, rfl⟩ := ht.forms
  obtain ⟨B3, d3, B4, d4, rfl, rfl, rfl, rfl, rfl⟩ := hd.forms
  have hnl := hf.parts.1
  have hkl := hfd.kids
  have hsl := hfd.str
  clear ht hd hf hfd
  have e : rangedV t d = if t.kind = 2 ∨ t.kind = 3 then betweenB t d.kids.length else if t.kind = 4 then betweenB t d.num else if t.kind = 6 then betweenB t d.str.size else if t.kind = 7 then Lib.containsS t.names d.str else true := rfl
  have E := Lib.hid e; clear e
  have HNS := Lib.hid hns; clear hns
  have TV := Lib.hid ST.out.tv
  by_cases k23 : t.kind = 2 ∨ t.kind = 3
  · have E2 : Hid (rangedV t d = betweenB t d.kids.length) := Lib.hid (by rw [E.out, if_pos k23])
    have g : (t.kind == 2) = true ∨ ((t.kind == 2) = false ∧ (t.kind == 3) = true) := by
      rcases k23 with h | h
      · exact .inl (by simp [h])
      · exact .inr ⟨by simp [h], by simp [h]⟩
    clear k23 E
    rcases g with g2 | ⟨g2, g3⟩
    · go_enter Tryz.func76, Tryz.ntmps76
      go_wp2_with fail
      refine (between_any TV.out).mono ?_
      rintro e w1 ⟨rfl, hb1⟩
      go_wp2_with fail
      go_ret
      exact ⟨ret_bool E2.out.symm, ST.out.bl.trans (hb1.mono ST.out.bl.size)⟩
    · go_enter Tryz.func76, Tryz.ntmps76
      go_wp2_with fail
      refine (between_any TV.out).mono ?_
      rintro e w1 ⟨rfl, hb1⟩
      go_wp2_with fail
      go_ret
      exact ⟨ret_bool E2.out.symm, ST.out.bl.trans (hb1.mono ST.out.bl.size)⟩
  have g2 : (t.kind == 2) = false := by simp; omega
  have g3 : (t.kind == 3) = false := by simp; omega
  by_cases k4 : t.kind = 4
  · have E2 : Hid (rangedV t d = betweenB t d.num) := Lib.hid (by rw [E.out, if_neg k23, if_pos k4])
    have g4 : (t.kind == 4) = true := by simp [k4]
    clear k23 k4 E
    go_enter Tryz.func76, Tryz.ntmps76
    go_wp2_with fail
    refine (between_any TV.out).mono ?_
    rintro e w1 ⟨rfl, hb1⟩
    go_wp2_with fail
    go_ret
    exact ⟨ret_bool E2.out.symm, ST.out.bl.trans (hb1.mono ST.out.bl.size)⟩
  have g4 : (t.kind == 4) = false := by simp [k4]
  by_cases k6 : t.kind = 6
  · have E2 : Hid (rangedV t d = betweenB t d.str.size) := Lib.hid (by rw [E.out, if_neg k23, if_neg k4, if_pos k6])
    have g6 : (t.kind == 6) = true := by simp [k6]
    clear k23 k4 k6 E
    go_enter Tryz.func76, Tryz.ntmps76
    go_wp2_with fail
    refine (between_any TV.out).mono ?_
    rintro e w1 ⟨rfl, hb1⟩
    go_wp2_with fail
    go_ret
    exact ⟨ret_bool E2.out.symm, ST.out.bl.trans (hb1.mono ST.out.bl.size)⟩
  have g6 : (t.kind == 6) = false := by simp [k6]
  by_cases k7 : t.kind = 7
  · have E2 : Hid (rangedV t d = Lib.containsS t.names d.str) := Lib.hid (by rw [E.out, if_neg k23, if_neg k4, if_neg k6, if_pos k7])
    have g7 : (t.kind == 7) = true := by simp [k7]
    clear k23 k4 k6 k7 E
    go_enter Tryz.func76, Tryz.ntmps76
    go_wp2_with fail
    refine (contains_any t.names _ d.str B _ (HNS.out.keep fun p hp => ST.out.bl.cell (p := p) (by omega)) hnl).mono ?_
    rintro e w1 ⟨rfl, rfl⟩
    go_wp2_with fail
    go_ret
    exact ⟨ret_bool E2.out.symm, ST.out.bl⟩
  have g7 : (t.kind == 7) = false := by simp [k7]
  have E2 : Hid (rangedV t d = true) := Lib.hid (by rw [E.out, if_neg k23, if_neg k4, if_neg k6, if_neg k7])
  clear k23 k4 k6 k7 E
  go_enter Tryz.func76, Tryz.ntmps76
  go_wp2_with fail
  go_ret
  exact ⟨ret_bool E2.out.symm, ST.out.bl⟩
def fitsV (t : T) (d : D) : Int := if d.kind = kindV t then (if rangedV t d = true then 0 else 8) else 7
set_option maxHeartbeats 4000000 in
set_option maxRecDepth 100000 in
theorem fits_any {t : T} {d : D} {v u : Value} {w : World} {B : Nat} (hf : t.Fit) (hfd : d.Fit) (hB : B ≤ w.heap.size) (ht : TypeV w B t v) (hd : DocV w B d u) :
    Calls Tryz.prog 45 #[v, u] w fun e w' => e = .returned (.int .i64 (fitsV t d)) ∧ Below w.heap.size w w' := by
  obtain ⟨v0, v1, v2, v3, v4, v5, rfl, ht⟩ := ht
  obtain ⟨u0, u1, u2, u3, u4, rfl, hd⟩ := hd
  have ST := Lib.hid (TD.start hB ht hd)
  obtain ⟨B3, d3, B4, d4, rfl, rfl, rfl, rfl, rfl⟩ := hd.forms
  have HF := Lib.hid hf; have HFD := Lib.hid hfd
  clear ht hd hf hfd
  have e : fitsV t d = if d.kind = kindV t then (if rangedV t d = true then 0 else 8) else 7 := rfl
  have E := Lib.hid e; clear e
  go_enter Tryz.func45, Tryz.ntmps45
  go_wp2_with fail
  generalize (w.alloc (.cells #[v0, v1, v2, v3, v4, v5] 26)).alloc (.cells #[.int .i64 d.kind, .int .i64 d.num, .string d.str, .slice B3 d.keys.length d3, .slice B4 d.kids.length d4] 29) = w1 at *
  obtain ⟨x0, x1, x2, x3, x4, x5⟩ := ST.out.bt.cells
  obtain ⟨y0, y1, y2, y3, y4⟩ := ST.out.bd.cells
  have sz1 := ST.out.sz
  go_region_held3 (fun w' => w'.cell? ⟨w.heap.size, 0, none⟩ = some v0 ∧ w'.cell? ⟨w.heap.size, 1, none⟩ = some v1 ∧ w'.cell? ⟨w.heap.size, 2, none⟩ = some v2 ∧ w'.cell? ⟨w.heap.size, 3, none⟩ = some v3 ∧ w'.cell? ⟨w.heap.size, 4, none⟩ = some v4 ∧ w'.cell? ⟨w.heap.size, 5, none⟩ = some v5 ∧ w'.cell? ⟨w.heap.size + 1, 0, none⟩ = some (.int .i64 d.kind))
    (first | exact ⟨x0, x1, x2, x3, x4, x5, y0⟩ | exact ⟨z0, z1, z2, z3, z4, z5, q0⟩)
    ((first
    | (go_at_call 75
       refine (kindOf_any (w := w1.drew) (B := B) (ST.out.next (Below.refl _ _).drew).tv).mono ?_
       rintro e w2 ⟨rfl, hb2⟩
       have ST2 := Lib.hid (ST.out.next (((Below.refl _ _).drew.trans hb2).mono sz1))
       clear hb2
       obtain ⟨z0, z1, z2, z3, z4, z5⟩ := ST2.out.bt.cells
       obtain ⟨q0, q1, q2, q3, q4⟩ := ST2.out.bd.cells)))
  all_goals (
    clear x0 x1 x2 x3 x4 x5 y0 y1 y2 y3 y4 sz1
    have sz2 := ST2.out.sz)
  all_goals (
    by_cases hk : d.kind = kindV t
    · have hk1 : (d.kind != kindV t) = false := by simp [hk]
      by_cases hr : rangedV t d = true
      · have E2 : Hid (fitsV t d = 0) := Lib.hid (by rw [E.out, if_pos hk, if_pos hr])
        clear hk
        go_wp2_with fail
        refine (ranged_any HF.out HFD.out ST2.out.le ST2.out.tv ST2.out.dv).mono ?_
        rintro e w3 ⟨rfl, hb3⟩
        rw [hr]
        clear hr
        go_wp2_with fail
        go_ret
        exact ⟨ret_int E2.out.symm, ST2.out.bl.trans (hb3.mono ST2.out.bl.size)⟩
      · have hr' : rangedV t d = false := by simpa using hr
        have E2 : Hid (fitsV t d = 8) := Lib.hid (by rw [E.out, if_pos hk, if_neg hr])
        clear hk hr
        go_wp2_with fail
        refine (ranged_any HF.out HFD.out ST2.out.le ST2.out.tv ST2.out.dv).mono ?_
        rintro e w3 ⟨rfl, hb3⟩
        rw [hr']
        clear hr'
        go_wp2_with fail
        go_ret
        exact ⟨ret_int E2.out.symm, ST2.out.bl.trans (hb3.mono ST2.out.bl.size)⟩
    · have hk1 : (d.kind != kindV t) = true := by simp [hk]
      have E2 : Hid (fitsV t d = 7) := Lib.hid (by rw [E.out, if_neg hk])
      clear hk
      go_wp2_with fail
      go_ret
      exact ⟨ret_int E2.out.symm, ST2.out.bl⟩)
def bothB (t : T) (d : D) : Bool := rightT t && rightB d
set_option maxHeartbeats 4000000 in
set_option maxRecDepth 100000 in
theorem both_any {t : T} {d : D} {v u : Value} {w : World} {B : Nat} (hs : t.size ≤ 10000) (hdp : t.depth ≤ 900) (hf : t.Fit) (hfd : d.Fit) (hB : B ≤ w.heap.size) (ht : TypeV w B t v) (hd : DocV w B d u) :
    Calls Tryz.prog 44 #[v, u] w fun e w' => e = .returned (.bool (bothB t d)) ∧ Below w.heap.size w w' := by
  obtain ⟨v0, v1, v2, v3, v4, v5, rfl, ht⟩ := ht
  obtain ⟨u0, u1, u2, u3, u4, rfl, hd⟩ := hd
  have ST := Lib.hid (TD.start hB ht hd)
  have HF := Lib.hid hf; have HFD := Lib.hid hfd
  clear ht hd hf hfd
  have e : bothB t d = (rightT t && rightB d) := rfl
  have E := Lib.hid e; clear e
  go_enter Tryz.func44, Tryz.ntmps44
  go_wp2_with fail
  generalize (w.alloc (.cells #[v0, v1, v2, v3, v4, v5] 26)).alloc (.cells #[u0, u1, u2, u3, u4] 29) = w1 at *
  refine (tright_any hs hdp HF.out ST.out.le ST.out.tv).mono ?_
  rintro e w2 ⟨rfl, hb2⟩
  have ST2 := Lib.hid (ST.out.next (hb2.mono ST.out.sz))
  clear hb2
  obtain ⟨y0, y1, y2, y3, y4⟩ := ST2.out.bd.cells
  have sz2 := ST2.out.sz
  by_cases hr : rightT t = true
  · have E2 : Hid (bothB t d = rightB d) := Lib.hid (by rw [E.out, hr]; rfl)
    rw [hr]
    clear hr
    go_wp2_with fail
    refine (right_v HFD.out ST2.out.le ST2.out.dv).mono ?_
    rintro e w3 ⟨rfl, hb3⟩
    go_wp2_with fail
    go_ret
    exact ⟨ret_bool E2.out.symm, ST2.out.bl.trans (hb3.mono ST2.out.bl.size)⟩
  · have hr' : rightT t = false := by simpa using hr
    have E2 : Hid (bothB t d = false) := Lib.hid (by rw [E.out, hr']; rfl)
    rw [hr']
    clear hr hr'
    go_wp2_with fail
    go_ret
    exact ⟨ret_bool E2.out.symm, ST2.out.bl⟩
def fitsAV (t : T) (d : D) : Int := if bothB t d = true then fitsV t d else 1
set_option maxHeartbeats 4000000 in
set_option maxRecDepth 100000 in
theorem fitsA_any {t : T} {d : D} {v u : Value} {w : World} {B : Nat} (hs : t.size ≤ 10000) (hdp : t.depth ≤ 900) (hf : t.Fit) (hfd : d.Fit) (hB : B ≤ w.heap.size) (ht : TypeV w B t v) (hd : DocV w B d u) :
    Calls Tryz.prog 18 #[v, u] w fun e w' => e = .returned (.int .i64 (fitsAV t d)) ∧ Below w.heap.size w w' := by
  obtain ⟨v0, v1, v2, v3, v4, v5, rfl, ht⟩ := ht
  obtain ⟨u0, u1, u2, u3, u4, rfl, hd⟩ := hd
  have ST := Lib.hid (TD.start hB ht hd)
  have HF := Lib.hid hf; have HFD := Lib.hid hfd
  clear ht hd hf hfd
  go_enter Tryz.func18, Tryz.ntmps18
  go_wp2_with fail
  generalize (w.alloc (.cells #[v0, v1, v2, v3, v4, v5] 26)).alloc (.cells #[u0, u1, u2, u3, u4] 29) = w1 at *
  refine (both_any hs hdp HF.out HFD.out ST.out.le ST.out.tv ST.out.dv).mono ?_
  rintro e w2 ⟨rfl, hb2⟩
  have ST2 := Lib.hid (ST.out.next (hb2.mono ST.out.sz))
  clear hb2
  obtain ⟨x0, x1, x2, x3, x4, x5⟩ := ST2.out.bt.cells
  obtain ⟨y0, y1, y2, y3, y4⟩ := ST2.out.bd.cells
  have sz2 := ST2.out.sz
  by_cases hr : bothB t d = true
  · have E2 : Hid (fitsAV t d = fitsV t d) := Lib.hid (by unfold fitsAV; rw [if_pos hr])
    rw [hr]
    clear hr
    go_wp2_with fail
    refine (fits_any HF.out HFD.out ST2.out.le ST2.out.tv ST2.out.dv).mono ?_
    rintro e w3 ⟨rfl, hb3⟩
    go_wp2_with fail
    go_ret
    exact ⟨ret_int E2.out.symm, ST2.out.bl.trans (hb3.mono ST2.out.bl.size)⟩
  · have hr' : bothB t d = false := by simpa using hr
    have E2 : Hid (fitsAV t d = 1) := Lib.hid (by unfold fitsAV; rw [if_neg hr])
    rw [hr']
    clear hr hr'
    go_wp2_with fail
    go_ret
    exact ⟨ret_int E2.out.symm, ST2.out.bl⟩
end Go.Proofs.YteecdmceleanjaaGreatDoor
namespace Go.Proofs.YteecdmceleanjaaGreatDoor
open Go.RowKit

def moreV (t : T) (ks : List ByteArray) : List ByteArray := ks.filter fun k => decide (fieldOf t k < 0)
theorem moreV_take (t : T) (ks : List ByteArray) (k : Nat) (h : k < ks.length) : moreV t (ks.take (k + 1)) = moreV t (ks.take k) ++ (if fieldOf t ks[k] < 0 then [ks[k]] else []) := by
  unfold moreV
  rw [List.take_succ_eq_append_getElem h, List.filter_append]
  congr 1
  by_cases h1 : fieldOf t ks[k] < 0 <;> simp [h1]
theorem moreV_len (t : T) (ks : List ByteArray) : (moreV t ks).length ≤ ks.length := List.length_filter_le _ _
/-- A row of strings of the call's own. -/
def MadeStrs (W0 : Nat) (w : World) (l : List ByteArray) (e : Ending) (w' : World) : Prop :=
  ∃ v : Value, e = .returned v ∧ w'.ownsRow W0 9 1 v l.length (l.map Value.string) ∧ Below W0 w w'
theorem TD.strs_at {w0 w : World} {B : Nat} {t : T} {d : D} {v0 v1 v2 v3 v4 v5 u0 u1 u2 u4 : Value} {A : Option Addr} {n c : Nat} (h : TD w0 w B t d v0 v1 v2 v3 v4 v5 u0 u1 u2 (.slice A n c) u4) {k : Nat} (hk : k < d.keys.length) :
    ∃ b off, A = some ⟨b, off, none⟩ ∧ b < w0.heap.size ∧ n = d.keys.length ∧ w.cell? ⟨b, off + k, none⟩ = some (.string d.keys[k]) := by
  obtain ⟨A', c', e, _, hc⟩ := h.din.keys_
  injection e with e1 e2 e3
  subst e1
  obtain ⟨b, off, rfl, hb, hc⟩ := hc (by omega)
  have := h.hB
  exact ⟨b, off, rfl, by omega, e2, (h.bl.cell (p := ⟨b, off + k, none⟩) (by show b < _; omega)).trans (hc k hk)⟩
set_option maxHeartbeats 4000000 in
set_option maxRecDepth 100000 in
theorem more_any {t : T} {d : D} {v u : Value} {w : World} {B : Nat} (hf : t.Fit) (hfd : d.Fit) (hB : B ≤ w.heap.size) (ht : TypeV w B t v) (hd : DocV w B d u) :
    Calls Tryz.prog 116 #[v, u] w (MadeStrs w.heap.size w (moreV t d.keys)) := by
  obtain ⟨v0, v1, v2, v3, v4, v5, rfl, ht⟩ := ht
  obtain ⟨u0, u1, u2, u3, u4, rfl, hd⟩ := hd
  have ST := Lib.hid (TD.start hB ht hd)
  obtain ⟨B3, d3, B4, d4, rfl, rfl, rfl, rfl, rfl⟩ := hd.forms
  have hkl := hfd.keys
  have HF := Lib.hid hf
  clear ht hd hf hfd
  obtain ⟨i0, hi, hz0, hz1, hz2⟩ := info_parts infoS
  have HI := Lib.hid hi; have HZ0 := Lib.hid hz0; have HZ1 := Lib.hid hz1; have HZ2 := Lib.hid hz2
  clear hi hz0 hz1 hz2
  go_enter Tryz.func116, Tryz.ntmps116
  go_wp2_with fail
  generalize (w.alloc (.cells #[v0, v1, v2, v3, v4, v5] 26)).alloc (.cells #[.int .i64 d.kind, .int .i64 d.num, .string d.str, .slice B3 d.keys.length d3, .slice B4 d.kids.length d4] 29) = w1 at *
  go_loopw [5, 11] (fun l i wr => ∃ k : Nat, k ≤ d.keys.length ∧ i = .int .i64 k ∧ wr.ownsRow (w.heap.size + 2) 9 1 l (moreV t (d.keys.take k)).length ((moreV t (d.keys.take k)).map Value.string) ∧ TD w wr B t d v0 v1 v2 v3 v4 v5 (.int .i64 d.kind) (.int .i64 d.num) (.string d.str) (.slice B3 d.keys.length d3) (.slice B4 d.kids.length d4)) (fun _ i _ => d.keys.length - (intOf i).toNat)
  case atStart => exact ⟨0, Nat.zero_le _, rfl, World.ownsRow_nil _ _ _ _, ST.out⟩
  case round =>
    obtain ⟨k, hk0, rfl, hown, hst⟩ := hrel
    have HO := Lib.hid hown; have HST := Lib.hid hst
    clear hown hst
    have sz := HST.out.sz
    by_cases hlt : k < d.keys.length
    · obtain ⟨b, off, rfl, hbl, _, hkey⟩ := HST.out.strs_at hlt
      obtain ⟨x0, x1, x2, x3, x4, x5⟩ := HST.out.bt.cells
      have hik0 : (0 : Int) ≤ (k : Int) := by omega
      have hik : (k : Int) < (d.keys.length : Int) := by omega
      have hbr : b < wr.heap.size := by omega
      obtain ⟨S, hS⟩ : ∃ S, S = d.keys[k] := ⟨_, rfl⟩
      have hmt := moreV_take t d.keys k hlt
      rw [← hS] at hkey hmt
      have HMT := Lib.hid hmt
      clear hS hmt
      go_wp2_with fail
      refine (tfield_any HF.out HST.out.le HST.out.tv).mono ?_
      rintro e w3 ⟨rfl, hb3⟩
      have HST3 := Lib.hid (HST.out.next (hb3.mono sz))
      have HO3 : Hid (w3.ownsRow (w.heap.size + 2) 9 1 u5 (moreV t (d.keys.take k)).length ((moreV t (d.keys.take k)).map Value.string)) := ownsRow_same HO.out fun j hj => hb3.block j (HO.out.lt j (blk_mem.1 hj)).2
      clear hb3 x0 x1 x2 x3 x4 x5 hkey
      have sz3 := HST3.out.sz
      have hml : (moreV t (d.keys.take k)).length ≤ 10000 := by have := moreV_len t (d.keys.take k); have := List.length_take_le k d.keys; omega
      by_cases hneg : fieldOf t S < 0
      · have HN := Lib.hid hneg
        go_wp2_with (at_builtin; refine wpList_append_lies _ rfl _ _ 22 rfl (w.heap.size + 2) 9 i0 (.string ByteArray.empty) 1 16 Tryz.underlying22 HI.out HZ0.out HZ1.out HZ2.out (by rfl) (by omega) _ (moreV t (d.keys.take k)).length _ rfl (HO3.out.alloc _) ⟨w3.heap.size, 0, none⟩ 1 _ [.string S] rfl rfl (World.news_of_block (heap_alloc_new w3 _)) (by simp [Value.oneCell']) (by omega) (by unfold maxLen; omega) (by omega) (by simp; omega) (w3.heap.size + 1) (by simp) ?_; intro g5 cap5 w5 hown5 hgrow5 hat5 hlt5)
        go_roundw
        case rel =>
          refine ⟨k + 1, by omega, by go_num, ?_, HST3.out.next ?_⟩
          · rw [HMT.out, if_pos HN.out]; simpa using hown5
          · exact ((Below.refl _ _).alloc sz3 _).trans ⟨hgrow5.os, hgrow5.tape, hgrow5.output, hgrow5.size, fun j hj => hgrow5.block j (by simp; omega) fun e => by have := (HO3.out.lt j e.symm).1; omega⟩
        case measure => simp [intOf]; omega
      · have HN := Lib.hid hneg
        go_wp2_with fail
        go_roundw
        case rel => exact ⟨k + 1, by omega, by go_num, by rw [HMT.out, if_neg (Int.not_lt.2 HN.out)]; simpa using HO3.out, HST3.out⟩
        case measure => simp [intOf]; omega
    · have hkk : d.keys.take k = d.keys := List.take_of_length_le (by omega)
      have HO' : Hid (wr.ownsRow (w.heap.size + 2) 9 1 u5 (moreV t d.keys).length ((moreV t d.keys).map Value.string)) := by have := HO.out; rw [hkk] at this; exact this
      clear hkk
      go_wp2_with fail
      go_ret
      exact ⟨_, rfl, ownsRow_base HO'.out (by omega), HST.out.bl⟩
end Go.Proofs.YteecdmceleanjaaGreatDoor
