/-
  
  
  
  What is changed at a place within a document of the call's own: the whole is the document with that part changed.
  
  
  
  
  What the row's list gives: 'Glob'.
-/
import Derived.Test.YtlemlgllkcgigaaGreatDoorD01
import Derived.Test.YtlemlgllkcgigaaGreatDoorD18
import Derived.Lib.AppendIntMem
import Derived.Deep.RegionHeld3
import Derived.Deep.RegionLaw
import Derived.Deep.DrawnRows
import Derived.BigRegion
import Derived.Test.YtlemlgllkcgigaaGreatDoorD23
import Derived.Test.YtlemlgllkcgigaaGreatDoorRows
import Derived.Stop.LaidErr
import Derived.MakeChecks
import Derived.Lib.LaidTab
namespace Go.Proofs.YtlemlgllkcgigaaGreatDoor
open Go.RowKit

/-- The library's variables that a walk reads: what they hold. -/
structure Glob (w : World) : Prop where
  syn : ∃ (tp : TypeId) (p : Value), w.var? Tryz.prog "strconv.ErrSyntax" = some #[.iface tp p]
  rng : ∃ (tp : TypeId) (p : Value), w.var? Tryz.prog "strconv.ErrRange" = some #[.iface tp p]
  tab : Lib.TabIs Tryz.prog w "internal/strconv.uint64pow10" .u64 Lib.pow10Tab
  size : 5 < w.heap.size
theorem var_same {P : Program} {w w' : World} {n : String} {g : Nat} (hg : P.globalNamed n = some g) (hs : w'.heap[g]? = w.heap[g]?) : w'.var? P n = w.var? P n := by
  simp [World.var?, hg, hs]
theorem gSyn : Tryz.prog.globalNamed "strconv.ErrSyntax" = some 2 := by kernel_rfl
theorem gRng : Tryz.prog.globalNamed "strconv.ErrRange" = some 3 := by kernel_rfl
theorem gTab : Tryz.prog.globalNamed "internal/strconv.uint64pow10" = some 1 := by kernel_rfl
theorem Glob.below {w w' : World} {B : Nat} (h : Glob w) (hb : Below B w w') (hB : 5 < B) : Glob w' where
  syn := by obtain ⟨tp, p, e⟩ := h.syn; exact ⟨tp, p, (var_same gSyn (hb.block _ (by omega))).trans e⟩
  rng := by obtain ⟨tp, p, e⟩ := h.rng; exact ⟨tp, p, (var_same gRng (hb.block _ (by omega))).trans e⟩
  tab := by have := h.tab; unfold Lib.TabIs at *; rw [var_same gTab (hb.block _ (by omega))]; exact this
  size := by have := h.size; have := hb.size; omega
theorem Glob.alloc {w : World} (h : Glob w) (o : Obj) : Glob (w.alloc o) := h.below ((Below.refl w.heap.size w).alloc (Nat.le_refl _) o) h.size

def Short (s : ByteArray) : Prop := s.size ≤ 140737488355328
theorem Short.of {s : ByteArray} (h : s.size ≤ 10000) : Short s := by unfold Short; omega
def placeI (s : ByteArray) : Int :=
  match Lib.atoiAll s.data.toList with
  | .ok n => if n < 0 then -1 else if Lib.itoa n = s.data.toList then n else -1
  | _ => -1
theorem below_bytes (w : World) (e : TypeId) (s : ByteArray) : Below w.heap.size w (Lib.bytesWorld w e s) := ⟨rfl, rfl, rfl, by rw [Lib.bytesWorld_size]; omega, fun j hj => Lib.bytesWorld_at_old w e s j hj⟩
theorem atoi_ok {s : ByteArray} {n : Int} (hs : Short s) (h : Lib.atoiAll s.data.toList = .ok n) (w : World) :
    Calls Tryz.prog 135 #[.string s] w fun e w' => e = .returned (.tuple #[.int .i64 n, .nilIface]) ∧ Below w.heap.size w w' := by
  refine (Tryz.strconv_Atoi_ok s (by unfold Short at hs; omega) n h w).mono ?_
  rintro e w' ⟨he, hw⟩
  refine ⟨he, ?_⟩
  rcases hw with rfl | ⟨t, rfl⟩
  · exact Below.refl _ _
  · exact below_bytes _ _ _
theorem atoi_bad {s : ByteArray} (hs : Short s) (h : ∀ n, Lib.atoiAll s.data.toList ≠ .ok n) (w : World) (hg : Glob w) :
    Calls Tryz.prog 135 #[.string s] w fun e w' => (∃ (n : Int) (N : Nat), e = .returned (.tuple #[.int .i64 n, .iface 163 (.pointer (some ⟨N, 0, none⟩))])) ∧ Below w.heap.size w w' := by
  unfold Short at hs
  obtain ⟨tp, p, e1⟩ := hg.syn
  obtain ⟨tp', p', e2⟩ := hg.rng
  cases hh : Lib.atoiAll s.data.toList
  case ok n => exact absurd hh (h n)
  case range => exact (Tryz.strconv_Atoi_range_var s (by omega) hh tp' p' w e2).mono fun _ _ ⟨N, he, _, _, hb⟩ => ⟨⟨_, N, he⟩, hb⟩
  exact (Tryz.strconv_Atoi_syntax_var s (by omega) hh tp p w e1).mono fun _ _ ⟨N, he, _, _, hb⟩ => ⟨⟨_, N, he⟩, hb⟩
theorem atoi_range {l : List UInt8} {n : Int} (h : Lib.atoiAll l = .ok n) : -9223372036854775808 ≤ n ∧ n ≤ 9223372036854775807 := by
  cases l with
  | nil => cases h
  | cons c r =>
    simp only [Lib.atoiAll] at h
    generalize Lib.parseMag _ = q at h
    cases q
    case ok u =>
      simp only at h
      by_cases h1 : ¬ c.toNat = 45 ∧ 9223372036854775808 ≤ u
      · rw [if_pos h1] at h; cases h
      · rw [if_neg h1] at h
        by_cases h2 : c.toNat = 45 ∧ 9223372036854775808 < u
        · rw [if_pos h2] at h; cases h
        · rw [if_neg h2] at h
          injection h with h
          subst h
          by_cases hn : c.toNat = 45
          · rw [if_pos hn]; have : ¬ 9223372036854775808 < u := fun hh => h2 ⟨hn, hh⟩; omega
          · rw [if_neg hn]; have : ¬ 9223372036854775808 ≤ u := fun hh => h1 ⟨hn, hh⟩; omega
    all_goals cases h
theorem itoa_any {n : Int} (h0 : -9223372036854775808 ≤ n) (h1 : n ≤ 9223372036854775807) (w : World) (hg : Glob w) :
    Calls Tryz.prog 56 #[.int .i64 n] w fun e w' => (∃ t : ByteArray, e = .returned (.string t) ∧ t.data.toList = Lib.itoa n) ∧ Below w.heap.size w w' :=
  (Tryz.strconv_Itoa n h0 h1 w hg.tab).mono fun _ _ ⟨he, k, os, hw⟩ => ⟨⟨_, he, by simp⟩, by rw [hw]; exact Lib.below_grow _ _ (Nat.le_refl _) _ _⟩

set_option maxHeartbeats 1000000 in
theorem place_any (s : ByteArray) (w : World) (hs : Short s) (hg : Glob w) : Calls Tryz.prog 99 #[.string s] w fun e w' => e = .returned (.int .i64 (placeI s)) ∧ Below w.heap.size w w' := by
  have HG := Lib.hid hg; have HS := Lib.hid hs
  clear hg hs
  by_cases hok : ∃ n, Lib.atoiAll s.data.toList = .ok n
  · obtain ⟨n, hn⟩ := hok
    have HR := Lib.hid (atoi_range hn)
    have HN := Lib.hid hn; clear hn
    by_cases hneg : n < 0
    · have E : Hid (placeI s = -1) := by show placeI s = -1; unfold placeI; rw [HN.out]; simp only; rw [if_pos (by omega)]
      go_enter Tryz.func99, Tryz.ntmps99
      go_wp2_with fail
      refine (atoi_ok HS.out HN.out _).mono ?_
      rintro e w1 ⟨rfl, hb1⟩
      go_wp2_with fail
      go_ret
      exact ⟨ret_int E.out.symm, hb1⟩
    · go_enter Tryz.func99, Tryz.ntmps99
      go_wp2_with fail
      refine (atoi_ok HS.out HN.out _).mono ?_
      rintro e w1 ⟨rfl, hb1⟩
      go_wp2_with fail
      refine (itoa_any HR.out.1 HR.out.2 w1 (HG.out.below hb1 HG.out.size)).mono ?_
      rintro e w2 ⟨⟨t, rfl, ht⟩, hb2⟩
      have HT := Lib.hid ht; clear ht
      have hb3 := hb1.trans (hb2.mono hb1.size)
      by_cases heq : Lib.itoa n = s.data.toList
      · have E : Hid (placeI s = n) := by show placeI s = n; unfold placeI; rw [HN.out]; simp only; rw [if_neg (by omega), if_pos heq]
        have hts : (t.toList == s.toList) = true := by rw [ByteArray.toList_eq, ByteArray.toList_eq, HT.out, heq, beq_iff_eq]
        clear heq
        go_wp2_with fail
        go_ret
        exact ⟨ret_int E.out.symm, hb3⟩
      · have E : Hid (placeI s = -1) := by show placeI s = -1; unfold placeI; rw [HN.out]; simp only; rw [if_neg (by omega), if_neg heq]
        have hts : (t.toList == s.toList) = false := by rw [ByteArray.toList_eq, ByteArray.toList_eq, HT.out, beq_eq_false_iff_ne]; exact heq
        clear heq
        go_wp2_with fail
        go_ret
        exact ⟨ret_int E.out.symm, hb3⟩
  · have E : Hid (placeI s = -1) := by
      show placeI s = -1; unfold placeI
      cases hh : Lib.atoiAll s.data.toList
      case ok n => exact absurd ⟨n, hh⟩ hok
      all_goals rfl
    have HB := Lib.hid (fun n h => hok ⟨n, h⟩ : ∀ n, Lib.atoiAll s.data.toList ≠ .ok n)
    clear hok
    go_enter Tryz.func99, Tryz.ntmps99
    go_wp2_with fail
    refine (atoi_bad HS.out HB.out _ HG.out).mono ?_
    rintro e w1 ⟨⟨n, N, rfl⟩, hb1⟩
    go_wp2_with fail
    go_ret
    exact ⟨ret_int E.out.symm, hb1⟩

theorem idx_any (xs : List ByteArray) (v : Value) (x : ByteArray) (B : Nat) (w : World) (hv : Strs w B v xs) (hl : xs.length ≤ 10000) :
    Calls Tryz.prog 117 #[v, .string x] w fun e w' => e = .returned (.int .i64 (Lib.idxOfS xs x)) ∧ w' = w := by
  obtain ⟨A, c, rfl, hc1, hc2⟩ := hv
  rcases Nat.eq_zero_or_pos xs.length with h0 | h0
  · obtain rfl : xs = [] := List.eq_nil_of_length_eq_zero h0
    exact Tryz.slices_Index_string_empty A c x w
  · obtain ⟨b, off, rfl, _, hc⟩ := hc2 h0
    have := Tryz.slices_Index_string b off xs.length c xs x w (Nat.le_refl _) (by omega) (fun j hj => by rw [hc j hj]; simp [List.getD, hj])
    rwa [List.take_length] at this
theorem idxFromS_range (x : ByteArray) : ∀ (zs : List ByteArray) (i : Nat), -1 ≤ Lib.idxFromS zs x i ∧ Lib.idxFromS zs x i < (i + zs.length : Nat)
  | [], i => by simp [Lib.idxFromS]; omega
  | z :: zs, i => by
    have := idxFromS_range x zs (i + 1)
    unfold Lib.idxFromS
    split
    · simp; omega
    · simp only [List.length_cons]; omega
theorem idxOfS_range (zs : List ByteArray) (x : ByteArray) : -1 ≤ Lib.idxOfS zs x ∧ Lib.idxOfS zs x < (zs.length : Int) := by
  have := idxFromS_range x zs 0
  unfold Lib.idxOfS
  omega
theorem placeI_range (s : ByteArray) : -1 ≤ placeI s ∧ placeI s ≤ 9223372036854775807 := by
  unfold placeI
  cases h : Lib.atoiAll s.data.toList
  case ok n =>
    have := atoi_range h
    simp only
    split
    · omega
    · split <;> omega
  all_goals simp

/-- The place that a part tells, whether or not there is a kid. -/
def find0 (d : D) (s : ByteArray) : Int := if d.kind = 1 ∨ d.kind = 2 then Lib.idxOfS d.keys s else if d.kind = 3 then placeI s else -1
def findI (d : D) (s : ByteArray) : Int := if (d.kids.length : Int) ≤ find0 d s then -1 else find0 d s
theorem find0_range (d : D) (s : ByteArray) (hl : d.keys.length ≤ 10000) : -1 ≤ find0 d s ∧ find0 d s ≤ 9223372036854775807 := by
  unfold find0
  have h1 := idxOfS_range d.keys s
  have h2 := placeI_range s
  split
  · omega
  · split <;> omega
theorem findI_range (d : D) (s : ByteArray) (hl : d.keys.length ≤ 10000) : -1 ≤ findI d s ∧ findI d s < (d.kids.length : Int) := by
  have := find0_range d s hl
  unfold findI
  split <;> omega

set_option maxHeartbeats 2000000 in
set_option maxRecDepth 100000 in
theorem find_any {d : D} {v0 v1 v2 v3 v4 : Value} {s : ByteArray} {w : World} {B : Nat} (hf : d.Fit) (hs : Short s) (hg : Glob w) (hB : B ≤ w.heap.size) (hd : DocIn w B d v0 v1 v2 v3 v4) :
    Calls Tryz.prog 94 #[.agg #[v0, v1, v2, v3, v4], .string s] w fun e w' => e = .returned (.int .i64 (findI d s)) ∧ Below w.heap.size w w' := by
  have HK := Lib.hid hd.keys_
  obtain ⟨A3, c3, A4, c4, rfl, rfl, rfl, rfl, rfl⟩ := hd.forms
  have hkl := hf.keys; have hdl := hf.kids
  have HG := Lib.hid hg; have HS := Lib.hid hs
  have HR := Lib.hid (find0_range d s hkl)
  clear hd hf hg hs
  have tail : ∀ i : Int, find0 d s = i → Hid (if (d.kids.length : Int) ≤ i then findI d s = -1 else findI d s = i) := fun i hi => by
    show if _ then _ else _
    unfold findI; rw [hi]; split <;> rfl
  have TL := Lib.hid tail; clear tail
  by_cases h1 : d.kind = 1
  · have E0 := Lib.hid (show find0 d s = Lib.idxOfS d.keys s by simp [find0, h1])
    have g1 : (d.kind == 1) = true := by simp [h1]
    clear h1
    have hr := idxOfS_range d.keys s
    have TT := TL.out _ E0.out
    go_enter Tryz.func94, Tryz.ntmps94
    go_wp2_with fail
    refine (idx_any d.keys _ s B _ (HK.out.keep fun p hp => World.cell?_alloc_lt w _ p (by omega)) hkl).mono ?_
    rintro e w1 ⟨rfl, rfl⟩
    by_cases hge : (d.kids.length : Int) ≤ Lib.idxOfS d.keys s
    · go_wp2_with fail
      go_ret
      exact ⟨ret_int (by have := TT.out; rw [if_pos hge] at this; exact this.symm), (Below.refl _ _).alloc (Nat.le_refl _) _⟩
    · go_wp2_with fail
      go_ret
      exact ⟨ret_int (by have := TT.out; rw [if_neg (by omega)] at this; exact this.symm), (Below.refl _ _).alloc (Nat.le_refl _) _⟩
  have g1 : (d.kind == 1) = false := by simp [h1]
  by_cases h2 : d.kind = 2
  · have E0 := Lib.hid (show find0 d s = Lib.idxOfS d.keys s by simp [find0, h2])
    have g2 : (d.kind == 2) = true := by simp [h2]
    clear h1 h2
    have hr := idxOfS_range d.keys s
    have TT := TL.out _ E0.out
    go_enter Tryz.func94, Tryz.ntmps94
    go_wp2_with fail
    refine (idx_any d.keys _ s B _ (HK.out.keep fun p hp => World.cell?_alloc_lt w _ p (by omega)) hkl).mono ?_
    rintro e w1 ⟨rfl, rfl⟩
    by_cases hge : (d.kids.length : Int) ≤ Lib.idxOfS d.keys s
    · go_wp2_with fail
      go_ret
      exact ⟨ret_int (by have := TT.out; rw [if_pos hge] at this; exact this.symm), (Below.refl _ _).alloc (Nat.le_refl _) _⟩
    · go_wp2_with fail
      go_ret
      exact ⟨ret_int (by have := TT.out; rw [if_neg (by omega)] at this; exact this.symm), (Below.refl _ _).alloc (Nat.le_refl _) _⟩
  have g2 : (d.kind == 2) = false := by simp [h2]
  by_cases h3 : d.kind = 3
  · have E0 := Lib.hid (show find0 d s = placeI s by simp [find0, h3])
    have g3 : (d.kind == 3) = true := by simp [h3]
    clear h1 h2 h3
    have hr := placeI_range s
    have TT := TL.out _ E0.out
    have HRR := Lib.hid hr
    have hlo := hr.1
    clear hr
    go_enter Tryz.func94, Tryz.ntmps94
    go_wp2_with fail
    refine (place_any s _ HS.out (HG.out.alloc _)).mono ?_
    rintro e w1 ⟨rfl, hb1⟩
    have hb2 : Below w.heap.size w w1 := ((Below.refl _ _).alloc (Nat.le_refl _) _).trans (hb1.mono (by simp))
    have q4 : w1.cell? ⟨w.heap.size, 4, none⟩ = some (.slice A4 d.kids.length c4) := (hb1.cell (p := ⟨w.heap.size, 4, none⟩) (by simp)).trans (World.cell?_alloc_at _ _ _ _ rfl)
    by_cases hge : (d.kids.length : Int) ≤ placeI s
    · go_wp2_with fail
      go_ret
      exact ⟨ret_int (by have := TT.out; rw [if_pos hge] at this; exact this.symm), hb2⟩
    · go_wp2_with fail
      go_ret
      exact ⟨ret_int (by have := TT.out; rw [if_neg (by omega)] at this; exact this.symm), hb2⟩
  · have g3 : (d.kind == 3) = false := by simp [h3]
    have E0 := Lib.hid (show find0 d s = -1 by simp [find0, h1, h2, h3])
    clear h1 h2 h3
    have TT := TL.out _ E0.out
    go_enter Tryz.func94, Tryz.ntmps94
    go_wp2_with fail
    go_ret
    exact ⟨ret_int (by have := TT.out; rw [if_neg (by omega)] at this; exact this.symm), (Below.refl _ _).alloc (Nat.le_refl _) _⟩
end Go.Proofs.YtlemlgllkcgigaaGreatDoor
namespace Go.Proofs.YtlemlgllkcgigaaGreatDoor
open Go.RowKit

/-- The place of the kid that a part tells. -/
def stepD (d : D) (s : ByteArray) : Option Nat := if 0 ≤ findI d s then some (findI d s).toNat else none
theorem stepD_lt {d : D} {s : ByteArray} {i : Nat} (hl : d.keys.length ≤ 10000) (h : stepD d s = some i) : i < d.kids.length ∧ findI d s = i := by
  have := findI_range d s hl
  unfold stepD at h
  split at h
  · injection h with h; omega
  · cases h
theorem stepD_none {d : D} {s : ByteArray} (h : findI d s < 0) : stepD d s = none := by
  unfold stepD; rw [if_neg (by omega)]
theorem stepD_some {d : D} {s : ByteArray} (h : 0 ≤ findI d s) : stepD d s = some (findI d s).toNat := by
  unfold stepD; rw [if_pos h]
/-- Where a path leads: the places of the kids on its way. -/
def D.locate : D → List ByteArray → Option (List Nat)
  | _, [] => some []
  | d, s :: ps =>
    match stepD d s with
    | none => none
    | some i => match d.kids[i]? with
      | none => none
      | some k => (D.locate k ps).map (i :: ·)
def D.subAt : D → List Nat → Option D
  | d, [] => some d
  | d, i :: is => match d.kids[i]? with
    | none => none
    | some k => D.subAt k is
theorem D.subAt_append : ∀ (d : D) (a b : List Nat), D.subAt d (a ++ b) = (D.subAt d a).bind fun x => D.subAt x b
  | d, [], b => rfl
  | d, i :: a, b => by
    simp only [List.cons_append, D.subAt]
    cases d.kids[i]? with
    | none => rfl
    | some k => exact D.subAt_append k a b
def Leads (w : World) : Nat → Nat → List Nat → Nat → Nat → Prop
  | b, off, [], b', off' => b = b' ∧ off = off'
  | b, off, i :: is, b', off' => ∃ g o n c, w.cell? ⟨b, off + 4, none⟩ = some (.slice (some ⟨g, o, none⟩) n c) ∧ Leads w g (o + i * 5) is b' off'
theorem Leads.snoc {w : World} : ∀ {is : List Nat} {b off b1 o1 g o n c i : Nat}, Leads w b off is b1 o1 → w.cell? ⟨b1, o1 + 4, none⟩ = some (.slice (some ⟨g, o, none⟩) n c) → Leads w b off (is ++ [i]) g (o + i * 5)
  | [], b, off, b1, o1, g, o, n, c, i, h, hc => by
    obtain ⟨rfl, rfl⟩ := h
    exact ⟨g, o, n, c, hc, rfl, rfl⟩
  | j :: is, b, off, b1, o1, g, o, n, c, i, h, hc => by
    obtain ⟨g', o', n', c', h1, h2⟩ := h
    exact ⟨g', o', n', c', h1, Leads.snoc h2 hc⟩
theorem Leads.keep {w w' : World} (hk : ∀ p : Addr, p.block < w.heap.size → w'.cell? p = w.cell? p) : ∀ {is : List Nat} {b off b' off' : Nat}, Leads w b off is b' off' → Leads w' b off is b' off'
  | [], _, _, _, _, h => h
  | i :: is, b, off, b', off', h => by
    obtain ⟨g, o, n, c, h1, h2⟩ := h
    exact ⟨g, o, n, c, (hk _ (World.block_lt_of_cell? _ _ h1)).trans h1, Leads.keep hk h2⟩

/-- Five cells. -/
structure Cells5 (w : World) (b off : Nat) (v0 v1 v2 v3 v4 : Value) : Prop where
  c0 : w.cell? ⟨b, off, none⟩ = some v0
  c1 : w.cell? ⟨b, off + 1, none⟩ = some v1
  c2 : w.cell? ⟨b, off + 2, none⟩ = some v2
  c3 : w.cell? ⟨b, off + 3, none⟩ = some v3
  c4 : w.cell? ⟨b, off + 4, none⟩ = some v4
theorem Cells5.keep {w w' : World} {b off : Nat} {v0 v1 v2 v3 v4 : Value} (h : Cells5 w b off v0 v1 v2 v3 v4) (hk : ∀ o, w'.cell? ⟨b, o, none⟩ = w.cell? ⟨b, o, none⟩) : Cells5 w' b off v0 v1 v2 v3 v4 :=
  ⟨(hk _).trans h.c0, (hk _).trans h.c1, (hk _).trans h.c2, (hk _).trans h.c3, (hk _).trans h.c4⟩
theorem Cells5.lt {w : World} {b off : Nat} {v0 v1 v2 v3 v4 : Value} (h : Cells5 w b off v0 v1 v2 v3 v4) : b < w.heap.size := World.block_lt_of_cell? _ _ h.c0

/-- What doc.at tells: where the path leads, and what stands there. -/
def AtTold (w : World) (B b off : Nat) (d : D) (ps : List ByteArray) (e : Ending) : Prop :=
  (D.locate d ps = none ∧ e = .returned (.pointer none)) ∨
  ∃ (is : List Nat) (b' off' : Nat) (x : D) (u0 u1 u2 u3 u4 : Value), D.locate d ps = some is ∧ e = .returned (.pointer (some ⟨b', off', none⟩)) ∧ Leads w b off is b' off' ∧ D.subAt d is = some x ∧ Cells5 w b' off' u0 u1 u2 u3 u4 ∧ DocIn w B x u0 u1 u2 u3 u4 ∧ x.Fit

theorem locate_none {d : D} {ps : List ByteArray} {k : Nat} {is : List Nat} {x : D} (h : k < ps.length) (hl : D.locate d ps = (D.locate x (ps.drop k)).map (is ++ ·)) (hs : stepD x ps[k] = none) : D.locate d ps = none := by
  rw [hl, List.drop_eq_getElem_cons h]; simp [D.locate, hs]
theorem locate_some {d : D} {ps : List ByteArray} {k i : Nat} {is : List Nat} {x : D} (h : k < ps.length) (hl : D.locate d ps = (D.locate x (ps.drop k)).map (is ++ ·)) (hs : stepD x ps[k] = some i) (hi : i < x.kids.length) :
    D.locate d ps = (D.locate x.kids[i] (ps.drop (k + 1))).map ((is ++ [i]) ++ ·) := by
  rw [hl, List.drop_eq_getElem_cons h]
  simp only [D.locate, hs, List.getElem?_eq_getElem hi, Option.map_map]
  congr 1
  funext l
  simp

set_option maxHeartbeats 4000000 in
set_option maxRecDepth 100000 in
theorem at_any {d : D} {v0 v1 v2 v3 v4 pv : Value} {ps : List ByteArray} {w : World} {B b off : Nat} (hf : d.Fit) (hps : ps.length ≤ 10000) (hs : ∀ s ∈ ps, Short s) (hg : Glob w) (hB : B ≤ w.heap.size)
    (hc : Cells5 w b off v0 v1 v2 v3 v4) (hd : DocIn w B d v0 v1 v2 v3 v4) (hp : Strs w B pv ps) :
    Calls Tryz.prog 60 #[.pointer (some ⟨b, off, none⟩), pv] w fun e w' => AtTold w B b off d ps e ∧ Below w.heap.size w w' := by
  obtain ⟨A, c, rfl, hc1, hc2⟩ := hp
  have HP := Lib.hid hc2; have HS := Lib.hid hs; have HG := Lib.hid hg
  have HF := Lib.hid hf; have HC := Lib.hid hc; have HD := Lib.hid hd
  clear hc2 hs hg hf hc hd
  go_enter Tryz.func60, Tryz.ntmps60
  go_wp2_with fail
  go_loopw [0, 10] (fun p i wr => ∃ (k : Nat) (is : List Nat) (b' off' : Nat) (x : D) (u0 u1 u2 u3 u4 : Value), k ≤ ps.length ∧ i = .int .i64 k ∧ p = .pointer (some ⟨b', off', none⟩) ∧ Leads w b off is b' off' ∧ D.subAt d is = some x ∧
      Cells5 w b' off' u0 u1 u2 u3 u4 ∧ DocIn w B x u0 u1 u2 u3 u4 ∧ x.Fit ∧ D.locate d ps = (D.locate x (ps.drop k)).map (is ++ ·) ∧ Below w.heap.size w wr) (fun _ i _ => ps.length - (intOf i).toNat)
  case atStart => exact ⟨0, [], b, off, d, v0, v1, v2, v3, v4, Nat.zero_le _, rfl, rfl, ⟨rfl, rfl⟩, rfl, HC.out, HD.out, HF.out, by simp, Below.refl _ _⟩
  case round =>
    obtain ⟨k, is, b', off', x, y0, y1, y2, y3, y4, hk, rfl, rfl, hlead, hsub, hcx, hdx, hfx, hloc, hb⟩ := hrel
    have HLD := Lib.hid hlead; have HSB := Lib.hid hsub; have HCX := Lib.hid hcx; have HDX := Lib.hid hdx; have HFX := Lib.hid hfx; have HLC := Lib.hid hloc
    clear hlead hsub hloc
    have hz := hb.size
    by_cases hlt : k < ps.length
    · obtain ⟨pb, po, rfl, hpb, hcells⟩ := HP.out (by omega)
      have gp : wr.cell? ⟨pb, po + k, none⟩ = some (.string ps[k]) := (hb.cell (p := ⟨pb, po + k, none⟩) (by show pb < _; omega)).trans (hcells k hlt)
      clear hcells
      have hbl := hcx.lt
      have hcr := hcx.keep (w' := wr) fun o => hb.cell (p := ⟨b', o, none⟩) hbl
      obtain ⟨A3, c3, A4, c4, rfl, rfl, rfl, rfl, rfl⟩ := hdx.forms
      obtain ⟨g0, g1, g2, g3, g4⟩ := hcr
      have hxk := hfx.keys
      clear hcx hdx hfx
      go_wp2_with fail
      refine (find_any (B := B) HFX.out (HS.out _ (List.getElem_mem hlt)) (HG.out.below hb HG.out.size) (by omega) (HDX.out.below (hb.mono hB))).mono ?_
      rintro e w1 ⟨rfl, hb1⟩
      have hb2 : Below w.heap.size w w1 := hb.trans (hb1.mono hz)
      have hcr1 := HCX.out.keep (w' := w1) fun o => hb2.cell (p := ⟨b', o, none⟩) hbl
      by_cases hneg : findI x ps[k] < 0
      · have E := Lib.hid (locate_none hlt HLC.out (stepD_none hneg))
        go_wp2_with fail
        go_ret
        exact ⟨.inl ⟨E.out, rfl⟩, hb2⟩
      · obtain ⟨i, hi⟩ : ∃ i : Nat, findI x ps[k] = (i : Int) := ⟨(findI x ps[k]).toNat, by omega⟩
        have hst : stepD x ps[k] = some i := by rw [stepD_some (by omega), hi]; simp
        obtain ⟨hik, _⟩ := stepD_lt hxk hst
        have hl2 := locate_some hlt HLC.out hst hik
        have hsub2 : D.subAt d (is ++ [i]) = some x.kids[i] := by rw [D.subAt_append, HSB.out]; simp [D.subAt, List.getElem?_eq_getElem hik]
        obtain ⟨_, hc4, hkk⟩ := HDX.out.kids_
        obtain ⟨kb, ko, rfl, hkb, hki⟩ := hkk (by omega)
        have hkc := KidsIn.at_ hki i hik
        rw [Nat.zero_add] at hkc
        obtain ⟨z0, z1, z2, z3, z4, q0, q1, q2, q3, q4, hdk⟩ := hkc
        have HREL : Hid (Leads w b off (is ++ [i]) kb (ko + i * 5) ∧ D.subAt d (is ++ [i]) = some x.kids[i] ∧ Cells5 w kb (ko + i * 5) z0 z1 z2 z3 z4 ∧ DocIn w B x.kids[i] z0 z1 z2 z3 z4 ∧ (x.kids[i]).Fit ∧
          D.locate d ps = (D.locate x.kids[i] (ps.drop (k + 1))).map ((is ++ [i]) ++ ·)) := ⟨HLD.out.snoc HCX.out.c4, hsub2, ⟨q0, q1, q2, q3, q4⟩, hdk, HFX.out.kid hik, hl2⟩
        obtain ⟨p0, p1, p2, p3, p4⟩ := hcr1
        rw [hi]
        clear hi hst hl2 hsub2 hkk hki q0 q1 q2 q3 q4 hdk hneg
        go_wp2_with fail
        go_roundw
        case rel => exact ⟨k + 1, is ++ [i], kb, ko + i * 5, x.kids[i], z0, z1, z2, z3, z4, by omega, by go_num, rfl, HREL.out.1, HREL.out.2.1, HREL.out.2.2.1, HREL.out.2.2.2.1, HREL.out.2.2.2.2.1, HREL.out.2.2.2.2.2, hb2⟩
        case measure => simp [intOf]; omega
    · have E : Hid (D.locate d ps = some is) := by
        show D.locate d ps = some is
        rw [HLC.out, List.drop_eq_nil_of_le (by omega)]; simp [D.locate]
      go_wp2_with fail
      go_ret
      exact ⟨.inr ⟨is, b', off', x, y0, y1, y2, y3, y4, E.out, rfl, HLD.out, HSB.out, HCX.out, HDX.out, HFX.out⟩, hb⟩
end Go.Proofs.YtlemlgllkcgigaaGreatDoor
namespace Go.Proofs.YtlemlgllkcgigaaGreatDoor
open Go.RowKit

def D.get (d : D) (ps : List ByteArray) : Option D := (D.locate d ps).bind (D.subAt d)
def getV (d : D) (ps : List ByteArray) : D × Bool := match D.get d ps with
  | none => (D.zero, false)
  | some x => (x, true)

set_option maxHeartbeats 4000000 in
set_option maxRecDepth 100000 in
theorem get_v {d : D} {v pv : Value} {ps : List ByteArray} {w : World} {B : Nat} (hf : d.Fit) (hps : ps.length ≤ 10000) (hs : ∀ s ∈ ps, Short s) (hg : Glob w) (hB : B ≤ w.heap.size) (hd : DocV w B d v) (hp : Strs w B pv ps) :
    Calls Tryz.prog 30 #[v, pv] w (MadeDoc2 w.heap.size w (getV d ps).1 (.bool (getV d ps).2)) := by
  obtain ⟨v0, v1, v2, v3, v4, rfl, hd⟩ := hd
  have HD := Lib.hid hd; have HP := Lib.hid hp; have HS := Lib.hid hs; have HG := Lib.hid hg; have HF := Lib.hid hf
  obtain ⟨A3, c3, A4, c4, rfl, rfl, rfl, rfl, rfl⟩ := hd.forms
  obtain ⟨A, c, rfl, hpc, _⟩ := hp
  clear hd hs hg hf
  go_enter Tryz.func30, Tryz.ntmps30
  go_wp2_with fail
  have keep : ∀ o o' : Obj, ∀ p : Addr, p.block < B → ((w.alloc o).alloc o').cell? p = w.cell? p := fun o o' p hp => (World.cell?_alloc_lt (w.alloc _) _ p (by simp; omega)).trans (World.cell?_alloc_lt w _ p (by omega))
  have hx1 := (Box5.new w (.int .i64 d.kind) (.int .i64 d.num) (.string d.str) (.slice A3 d.keys.length c3) (.slice A4 d.kids.length c4)).alloc (.cells #[.int .i64 0, .int .i64 0, .string ⟨#[]⟩, .slice none 0 0, .slice none 0 0] 29)
  have hr1 := Box5.new' (w := w.alloc (.cells #[.int .i64 d.kind, .int .i64 d.num, .string d.str, .slice A3 d.keys.length c3, .slice A4 d.kids.length c4] 29)) (World.size_alloc _ _) (.int .i64 0) (.int .i64 0) (.string ⟨#[]⟩) (.slice none 0 0) (.slice none 0 0)
  refine (at_any (B := B) (d := d) HF.out hps HS.out ((HG.out.alloc _).alloc _) (by simp; omega) ⟨hx1.cells.1, hx1.cells.2.1, hx1.cells.2.2.1, hx1.cells.2.2.2.1, hx1.cells.2.2.2.2⟩ (HD.out.keep (Nat.le_refl _) (keep _ _)) (HP.out.keep (keep _ _))).mono ?_
  rintro e w1 ⟨ht, hb1⟩
  simp only [World.size_alloc] at hb1
  have hz1 := hb1.size
  simp only [World.size_alloc] at hz1
  have hr2 := hr1.same (hb1.block (w.heap.size + 1) (by omega))
  have hbw : Below w.heap.size w w1 := (((Below.refl _ _).alloc (Nat.le_refl _) _).alloc (by simp) _).trans (hb1.mono (by omega))
  have HR2 := Lib.hid hr2
  rcases ht with ⟨hloc, rfl⟩ | ⟨is, b', off', x, u0, u1, u2, u3, u4, hloc, rfl, _, hsub, hcx, hdx, hfx⟩
  · have E : Hid (getV d ps = (D.zero, false)) := by show getV d ps = _; simp [getV, D.get, hloc]
    obtain ⟨r0, r1, r2, r3, r4⟩ := hr2.cells
    have r5 := hr2.frozen
    clear hx1 hr1 keep hloc hr2
    go_wp2_with fail
    have hfin := ((((HR2.out.set0 (.int .i64 0)).set1 (.int .i64 0)).set2 (.string ⟨#[]⟩)).set3 (.slice none 0 0)).set4 (.slice none 0 0)
    refine ret_cell5_2 (u := .bool false) rfl rfl rfl hfin.load rfl ?_
    rw [E.out]
    exact ⟨_, _, _, _, _, [], rfl, OwnIn.zero _ _, List.nodup_nil, ((((hbw.setCell (by show w.heap.size ≤ w.heap.size + 1; omega) _).setCell (by show w.heap.size ≤ w.heap.size + 1; omega) _).setCell (by show w.heap.size ≤ w.heap.size + 1; omega) _).setCell (by show w.heap.size ≤ w.heap.size + 1; omega) _).setCell (by show w.heap.size ≤ w.heap.size + 1; omega) _⟩
  · have E : Hid (getV d ps = (x, true)) := by show getV d ps = _; simp [getV, D.get, hloc, hsub]
    have hcl := hcx.lt
    simp only [World.size_alloc] at hcl
    have hcx1 := hcx.keep (w' := w1) fun o => hb1.cell (p := ⟨b', o, none⟩) hcl
    have hdx1 : DocIn w1 B x u0 u1 u2 u3 u4 := hdx.keep (Nat.le_refl _) fun p hp => hb1.cell (by omega)
    obtain ⟨X3, e3, X4, e4, rfl, rfl, rfl, rfl, rfl⟩ := hdx1.forms
    obtain ⟨q0, q1, q2, q3, q4⟩ := hcx1
    have HDX := Lib.hid hdx1
    clear hx1 hr1 keep hloc hr2 hsub hcx hdx hdx1
    go_wp2_with fail
    refine (copy_v (B := B) (d := x) hfx (by omega) ⟨_, _, _, _, _, rfl, HDX.out⟩).mono ?_
    rintro e w2 ⟨y0, y1, y2, y3, y4, F, rfl, hown, hnd, hb2⟩
    obtain ⟨Y3, f3, Y4, f4, rfl, rfl, rfl, rfl, rfl⟩ := hown.doc.forms
    have hr3 := HR2.out.same (hb2.block (w.heap.size + 1) (by omega))
    obtain ⟨r0, r1, r2, r3, r4⟩ := hr3.cells
    have r5 := hr3.frozen
    have HR3 := Lib.hid hr3; have HO := Lib.hid hown; have HN := Lib.hid hnd; have HB2 := Lib.hid hb2
    clear hr3 hown hnd hb2 q0 q1 q2 q3 q4
    go_wp2_with fail
    have hfin := ((((HR3.out.set0 (.int .i64 x.kind)).set1 (.int .i64 x.num)).set2 (.string x.str)).set3 (.slice Y3 x.keys.length f3)).set4 (.slice Y4 x.kids.length f4)
    refine ret_cell5_2 (u := .bool true) rfl rfl rfl hfin.load rfl ?_
    rw [E.out]
    have hF := HO.out.lt
    refine ⟨_, _, _, _, _, F, rfl, HO.out.same (by omega) fun k hk => ?_, HN.out, (((((hbw.trans (HB2.out.mono (by omega))).setCell (by show w.heap.size ≤ w.heap.size + 1; omega) _).setCell (by show w.heap.size ≤ w.heap.size + 1; omega) _).setCell (by show w.heap.size ≤ w.heap.size + 1; omega) _).setCell (by show w.heap.size ≤ w.heap.size + 1; omega) _).setCell (by show w.heap.size ≤ w.heap.size + 1; omega) _⟩
    have hk1 := (hF k hk).1
    rw [Below.heap_setCell _ _ _ k (by show k ≠ w.heap.size + 1; omega), Below.heap_setCell _ _ _ k (by show k ≠ w.heap.size + 1; omega), Below.heap_setCell _ _ _ k (by show k ≠ w.heap.size + 1; omega), Below.heap_setCell _ _ _ k (by show k ≠ w.heap.size + 1; omega), Below.heap_setCell _ _ _ k (by show k ≠ w.heap.size + 1; omega)]
end Go.Proofs.YtlemlgllkcgigaaGreatDoor
namespace Go.Proofs.YtlemlgllkcgigaaGreatDoor
open Go.RowKit

def D.setKid (d : D) (i : Nat) (x : D) : D := .mk d.kind d.num d.str d.keys (d.kids.set i x)
def D.repl : D → List Nat → D → D
  | _, [], x => x
  | d, i :: is, x => match d.kids[i]? with
    | none => d
    | some k => d.setKid i (D.repl k is x)

/-- Block b is as it was but for the five cells from off on. -/
def UpdBlk (w w' : World) (b off : Nat) : Prop :=
  ∃ (cur cur' : Array Value), w.heap[b]? = some (.cells cur 29 (0, 0)) ∧ w'.heap[b]? = some (.cells cur' 29 (0, 0)) ∧ cur'.size = cur.size ∧ ∀ j, (j < off ∨ off + 5 ≤ j) → cur'[j]? = cur[j]?
theorem UpdBlk.refl {w : World} {b : Nat} (off : Nat) {cur : Array Value} (h : w.heap[b]? = some (.cells cur 29 (0, 0))) : UpdBlk w w b off := ⟨cur, cur, h, h, rfl, fun _ _ => rfl⟩
theorem UpdBlk.same {w w' w'' : World} {b off : Nat} (h : UpdBlk w w' b off) (hs : w''.heap[b]? = w'.heap[b]?) : UpdBlk w w'' b off := by
  obtain ⟨cur, cur', h1, h2, h3, h4⟩ := h
  exact ⟨cur, cur', h1, hs.trans h2, h3, h4⟩
theorem UpdBlk.setCell {w w' : World} {b off : Nat} (h : UpdBlk w w' b off) {o : Nat} (h1 : off ≤ o) (h2 : o < off + 5) (u : Value) : UpdBlk w (w'.setCell ⟨b, o, none⟩ u) b off := by
  obtain ⟨cur, cur', g1, g2, g3, g4⟩ := h
  refine ⟨cur, cur'.setIfInBounds o u, g1, by simp [World.setCell, Array.getElem?_modify, g2], by simpa using g3, fun j hj => ?_⟩
  rw [Array.getElem?_setIfInBounds_ne (by omega)]
  exact g4 j hj
theorem UpdBlk.cell {w w' : World} {b off : Nat} (h : UpdBlk w w' b off) {j : Nat} (hj : j < off ∨ off + 5 ≤ j) : w'.cell? ⟨b, j, none⟩ = w.cell? ⟨b, j, none⟩ := by
  obtain ⟨cur, cur', g1, g2, g3, g4⟩ := h
  rw [cell_of_row w' b j _ _ _ g2, cell_of_row w b j _ _ _ g1, g4 j hj]

theorem OwnIn.parts {w : World} {base : Nat} {d : D} {v0 v1 v2 v3 v4 : Value} {F : List Nat} (h : OwnIn w base d v0 v1 v2 v3 v4 F) :
    v0 = .int .i64 d.kind ∧ v1 = .int .i64 d.num ∧ v2 = .string d.str ∧ w.ownsRow base 9 1 v3 d.keys.length (d.keys.map Value.string) ∧
      ∃ (cs : List Value) (Fs : List Nat), w.ownsRow base 29 5 v4 d.kids.length cs ∧ OwnKids w base d.kids cs Fs ∧ F = blk v3 ++ (blk v4 ++ Fs) := by
  obtain ⟨_, _, _, _, _⟩ := d
  simpa only [OwnIn, D.kind, D.num, D.str, D.keys, D.kids] using h

/-- The row of block g, with five cells of it changed. -/
theorem ownsRow_upd {w w' : World} {base g cap n i : Nat} {c1 c2 : List Value} {v0 v1 v2 v3 v4 y0 y1 y2 y3 y4 : Value} (h : w.ownsRow base 29 5 (.slice (some ⟨g, 0, none⟩) n cap) n (c1 ++ (v0 :: v1 :: v2 :: v3 :: v4 :: c2))) (hl : c1.length = i * 5)
    (hu : UpdBlk w w' g (i * 5)) (hy : Cells5 w' g (i * 5) y0 y1 y2 y3 y4) : w'.ownsRow base 29 5 (.slice (some ⟨g, 0, none⟩) n cap) n (c1 ++ (y0 :: y1 :: y2 :: y3 :: y4 :: c2)) := by
  obtain ⟨h1, h2⟩ := h
  refine ⟨by simpa using h1, ?_⟩
  rcases h2 with ⟨e, _⟩ | ⟨g', cap', cur0, e, hg, hh, r1, r2, r3, r4⟩
  · cases e
  · injection e with e1 e2 e3
    injection e1 with e1
    injection e1 with e1
    subst e1; subst e3
    obtain ⟨cur, cur', g1, g2, g3, g4⟩ := hu
    rw [hh] at g1
    injection g1 with g1
    injection g1 with g1
    subst g1
    refine .inr ⟨g, cap, cur', rfl, hg, g2, r1, r2, by omega, ?_⟩
    have hlen : (c1 ++ (v0 :: v1 :: v2 :: v3 :: v4 :: c2)).length = n * 5 := h1
    have hsz : n * 5 ≤ cur0.size := by rw [r3]; exact Nat.mul_le_mul_right 5 r1
    have hcell : ∀ t, w'.cell? ⟨g, t, none⟩ = cur'[t]? := fun t => cell_of_row w' g t _ _ _ g2
    apply List.ext_getElem?
    intro j
    rw [List.getElem?_take]
    by_cases hj : j < n * 5
    · rw [if_pos hj, Array.getElem?_toList]
      rcases Nat.lt_or_ge j (i * 5) with h3 | h3
      · rw [g4 j (.inl h3), List.getElem?_append_left (by omega)]
        have := congrArg (fun l : List Value => l[j]?) r4
        simp only [List.getElem?_take, if_pos hj, Array.getElem?_toList] at this
        rw [this, List.getElem?_append_left (by omega)]
      · rcases Nat.lt_or_ge j (i * 5 + 5) with h4 | h4
        · rw [← hcell, List.getElem?_append_right (by omega)]
          obtain ⟨t, rfl⟩ : ∃ t, j = i * 5 + t := ⟨j - i * 5, by omega⟩
          rw [show i * 5 + t - c1.length = t from by omega]
          match t, h4 with
          | 0, _ => exact hy.c0
          | 1, _ => exact hy.c1
          | 2, _ => exact hy.c2
          | 3, _ => exact hy.c3
          | 4, _ => exact hy.c4
          | t + 5, h => omega
        · rw [g4 j (.inr h4), List.getElem?_append_right (by omega)]
          have := congrArg (fun l : List Value => l[j]?) r4
          simp only [List.getElem?_take, if_pos hj, Array.getElem?_toList] at this
          rw [this, List.getElem?_append_right (by omega)]
          obtain ⟨t, ht⟩ : ∃ t, j - c1.length = t + 5 := ⟨j - c1.length - 5, by omega⟩
          rw [ht]
          simp
    · rw [if_neg hj, List.getElem?_eq_none (by simp at hlen ⊢; omega)]

structure Focus (w : World) (base : Nat) (d : D) (is : List Nat) (x : D) (b0 off0 : Nat) (v0 v1 v2 v3 v4 : Value) (F : List Nat) (b off : Nat) (u0 u1 u2 u3 u4 : Value) (G : List Nat) : Prop where
  cells : Cells5 w b off u0 u1 u2 u3 u4
  own : OwnIn w base x u0 u1 u2 u3 u4 G
  sub : ∀ k ∈ G, k ∈ F
  out : b ∉ G
  nodup : G.Nodup
  place : (is = [] ∧ b = b0 ∧ off = off0) ∨ b ∈ F
  blkc : ∃ cur : Array Value, w.heap[b]? = some (.cells cur 29 (0, 0))
  back : ∀ (w' : World) (x' : D) (y0 y1 y2 y3 y4 : Value) (G' : List Nat), (∀ k ∈ F, k ∉ G → k ≠ b → w'.heap[k]? = w.heap[k]?) → (b0 ≠ b → w'.heap[b0]? = w.heap[b0]?) → UpdBlk w w' b off → Cells5 w' b off y0 y1 y2 y3 y4 →
    OwnIn w' base x' y0 y1 y2 y3 y4 G' → G'.Nodup → (∀ k ∈ G', k ∈ G ∨ (k ∉ F ∧ k ≠ b0)) → b ∉ G' →
    ∃ (z0 z1 z2 z3 z4 : Value) (F' : List Nat), Cells5 w' b0 off0 z0 z1 z2 z3 z4 ∧ OwnIn w' base (D.repl d is x') z0 z1 z2 z3 z4 F' ∧ F'.Nodup ∧ b0 ∉ F' ∧ ∀ k ∈ F', k ∈ F ∨ k ∈ G'

theorem focus {w : World} {base : Nat} : ∀ (is : List Nat) (d x : D) (b0 off0 : Nat) (v0 v1 v2 v3 v4 : Value) (F : List Nat) (b off : Nat), (∃ cur : Array Value, w.heap[b0]? = some (.cells cur 29 (0, 0))) → Cells5 w b0 off0 v0 v1 v2 v3 v4 → OwnIn w base d v0 v1 v2 v3 v4 F → F.Nodup → b0 ∉ F → D.subAt d is = some x → Leads w b0 off0 is b off →
    ∃ (u0 u1 u2 u3 u4 : Value) (G : List Nat), Focus w base d is x b0 off0 v0 v1 v2 v3 v4 F b off u0 u1 u2 u3 u4 G
  | [], d, x, b0, off0, v0, v1, v2, v3, v4, F, b, off, hbc, hc, ho, hn, hb, hs, hl => by
    obtain ⟨rfl, rfl⟩ := hl
    simp only [D.subAt, Option.some.injEq] at hs
    subst hs
    exact ⟨v0, v1, v2, v3, v4, F, ⟨hc, ho, fun _ h => h, hb, hn, .inl ⟨rfl, rfl, rfl⟩, hbc, fun w' x' y0 y1 y2 y3 y4 G' _ _ _ h4 h5 h6 _ h8 => ⟨y0, y1, y2, y3, y4, G', h4, h5, h6, h8, fun k hk => .inr hk⟩⟩⟩
  | i :: is, d, x, b0, off0, v0, v1, v2, v3, v4, F, b, off, _, hc, ho, hn, hb, hs, hl => by
    obtain ⟨e0, e1, e2, hk3, cs, Fs, hr4, hkids, rfl⟩ := ho.parts
    simp only [D.subAt] at hs
    cases hki : d.kids[i]? with
    | none => rw [hki] at hs; cases hs
    | some k0 =>
      rw [hki] at hs
      simp only at hs
      obtain ⟨hil, rfl⟩ := List.getElem?_eq_some_iff.1 hki
      obtain ⟨t0, t1, t2, t3, t4, c1, c2, F1, G0, F2, rfl, hcl, rfl, ok1, okx, ok2⟩ := hkids.split i hil
      obtain ⟨g, cap, rfl, hgb, hgl⟩ := hr4.form (by omega)
      obtain ⟨g', o', n', cp', hl1, hl2⟩ := hl
      rw [hc.c4] at hl1
      injection hl1 with hl1
      injection hl1 with hl1 hl3 hl4
      injection hl1 with hl1
      injection hl1 with hl5 hl6
      subst hl5; subst hl6
      rw [Nat.zero_add] at hl2
      have hbg : blk (.slice (some ⟨g, 0, none⟩) d.kids.length cap) = [g] := rfl
      have hrow : ∀ t, t < d.kids.length * 5 → w.cell? ⟨g, t, none⟩ = (c1 ++ (t0 :: t1 :: t2 :: t3 :: t4 :: c2))[t]? := fun t ht => hr4.cellAt t ht
      have hmul : i * 5 + 5 ≤ d.kids.length * 5 := by omega
      have hcx : Cells5 w g (i * 5) t0 t1 t2 t3 t4 := by
        constructor
        · rw [hrow _ (by omega), List.getElem?_append_right (by omega), hcl]; simp
        · rw [hrow _ (by omega), List.getElem?_append_right (by omega), hcl]; simp
        · rw [hrow _ (by omega), List.getElem?_append_right (by omega), hcl]; simp
        · rw [hrow _ (by omega), List.getElem?_append_right (by omega), hcl]; simp
        · rw [hrow _ (by omega), List.getElem?_append_right (by omega), hcl]; simp
      rw [hbg] at hn hb
      have hnn := hn
      simp only [List.nodup_append, List.nodup_cons, List.mem_append, List.mem_cons, List.not_mem_nil, or_false, ne_eq, List.nodup_nil, not_false_eq_true, true_and] at hn
      obtain ⟨hn3, ⟨⟨hn1, ⟨hnG, hn2, hnG2⟩, hn1G⟩, hng⟩, hn3d⟩ := hn
      have hgG : g ∉ G0 := fun h => hng g rfl g (.inr (.inl h)) rfl
      have hblk : ∃ cur : Array Value, w.heap[g]? = some (.cells cur 29 (0, 0)) := by
        rcases hr4.2 with ⟨e, _⟩ | ⟨g', cap', cur0, e, _, hh, _⟩
        · cases e
        · injection e with e _ _
          injection e with e
          injection e with e
          subst e
          exact ⟨cur0, hh⟩
      obtain ⟨u0, u1, u2, u3, u4, G, hf⟩ := focus is d.kids[i] x g (i * 5) t0 t1 t2 t3 t4 G0 b off hblk hcx okx hnG hgG hs hl2
      have hbF : b = g ∨ b ∈ G0 := by
        rcases hf.place with ⟨_, h, _⟩ | h
        · exact .inl h
        · exact .inr h
      have hGF : ∀ k ∈ G, k ∈ G0 := hf.sub
      have memF : ∀ k, k ∈ blk v3 ++ ([g] ++ (F1 ++ (G0 ++ F2))) ↔ k ∈ blk v3 ∨ k = g ∨ k ∈ F1 ∨ k ∈ G0 ∨ k ∈ F2 := fun k => by simp [List.mem_append]
      have hbFF : b ∈ blk v3 ++ ([g] ++ (F1 ++ (G0 ++ F2))) := by
        rw [memF]
        rcases hbF with h | h
        · exact .inr (.inl h)
        · exact .inr (.inr (.inr (.inl h)))
      refine ⟨u0, u1, u2, u3, u4, G, ⟨hf.cells, hf.own, fun k hk => by rw [hbg, memF]; exact .inr (.inr (.inr (.inl (hGF k hk)))), hf.out, hf.nodup, .inr (by rw [hbg]; exact hbFF), hf.blkc, ?_⟩⟩
      intro w' x' y0 y1 y2 y3 y4 G' h1 h2 h3 h4 h5 h6 h7 h8
      rw [hbg] at h1 h7
      have hgnG : g ∉ G := fun h => hgG (hGF g h)
      obtain ⟨z0, z1, z2, z3, z4, F0, kc, ko, kn, kg, ks⟩ := hf.back w' x' y0 y1 y2 y3 y4 G' (fun k hk => h1 k (by rw [memF]; exact .inr (.inr (.inr (.inl hk))))) (fun hgb => h1 g (by rw [memF]; exact .inr (.inl rfl)) hgnG hgb) h3 h4 h5 h6
        (fun k hk => by
          rcases h7 k hk with h | ⟨h, _⟩
          · exact .inl h
          · rw [memF] at h
            exact .inr ⟨fun h' => h (.inr (.inr (.inr (.inl h')))), fun h' => h (.inr (.inl h'))⟩) h8
      have hupd : UpdBlk w w' g (i * 5) := by
        by_cases hgb : g = b
        · rcases hf.place with ⟨_, _, h⟩ | h
          · rw [← h, hgb]; exact h3
          · exact absurd (hgb ▸ h) hgG
        · obtain ⟨cur, hcur⟩ := hblk
          exact (UpdBlk.refl _ hcur).same (h1 g (by rw [memF]; exact .inr (.inl rfl)) hgnG hgb)
      have hrow' := ownsRow_upd hr4 hcl hupd kc
      have hb0b : b0 ≠ b := fun h => hb (h ▸ hbFF)
      have hrest : ∀ k, (k ∈ blk v3 ∨ k ∈ F1 ∨ k ∈ F2) → w'.heap[k]? = w.heap[k]? := fun k hk => by
        have hk0 : k ∉ G0 ∧ k ≠ g := by
          rcases hk with hk | hk | hk
          · exact ⟨fun h => hn3d k hk k (.inr (.inr (.inl h))) rfl, fun h => hn3d k hk k (.inl h) rfl⟩
          · exact ⟨fun h => hn1G k hk k (.inl h) rfl, fun h => hng g rfl k (.inl hk) h.symm⟩
          · exact ⟨fun h => hnG2 k h k hk rfl, fun h => hng g rfl k (.inr (.inr hk)) h.symm⟩
        refine h1 k (by rw [memF]; rcases hk with hk | hk | hk
                        · exact .inl hk
                        · exact .inr (.inr (.inl hk))
                        · exact .inr (.inr (.inr (.inr hk)))) (fun h => hk0.1 (hGF k h)) fun h => ?_
        subst h
        rcases hbF with h | h
        · exact hk0.2 h
        · exact hk0.1 h
      have hrep : D.repl d (i :: is) x' = d.setKid i (D.repl d.kids[i] is x') := by simp only [D.repl, hki]
      have hset : d.kids.set i (D.repl d.kids[i] is x') = d.kids.take i ++ D.repl d.kids[i] is x' :: d.kids.drop (i + 1) := by rw [List.set_eq_take_append_cons_drop, if_pos hil]
      refine ⟨v0, v1, v2, v3, .slice (some ⟨g, 0, none⟩) d.kids.length cap, blk v3 ++ ([g] ++ (F1 ++ (F0 ++ F2))), hc.keep fun o => World.cell?_of_block (a := ⟨b0, o, none⟩) (h2 hb0b), ?_, ?_, ?_, ?_⟩
      · rw [hrep, e0, e1, e2, ← hbg]
        refine OwnIn.make (d := d.setKid i (D.repl d.kids[i] is x')) (ownsRow_same hk3 fun k hk => hrest k (.inl hk)) (by simpa [D.setKid, D.kids] using hrow') ?_
        show OwnKids w' base (d.kids.set i (D.repl d.kids[i] is x')) _ _
        rw [hset]
        exact OwnKids.join ko (ok2.same (Nat.le_refl _) fun k hk => hrest k (.inr (.inr hk))) (ok1.same (Nat.le_refl _) fun k hk => hrest k (.inr (.inl hk)))
      · have hF0 : ∀ k ∈ F0, k ∉ blk v3 ∧ k ≠ g ∧ k ∉ F1 ∧ k ∉ F2 := fun k hk => by
          have hk0 : k ∈ G0 ∨ k ∉ blk v3 ++ ([g] ++ (F1 ++ (G0 ++ F2))) := by
            rcases ks k hk with h | h
            · exact .inl h
            · rcases h7 k h with h | ⟨h, _⟩
              · exact .inl (hGF k h)
              · exact .inr h
          rcases hk0 with h | h
          · exact ⟨fun h' => hn3d k h' k (.inr (.inr (.inl h))) rfl, fun h' => hgG (h' ▸ h), fun h' => hn1G k h' k (.inl h) rfl, fun h' => hnG2 k h k h' rfl⟩
          · rw [memF] at h
            exact ⟨fun h' => h (.inl h'), fun h' => h (.inr (.inl h')), fun h' => h (.inr (.inr (.inl h'))), fun h' => h (.inr (.inr (.inr (.inr h'))))⟩
        simp only [List.nodup_append, List.nodup_cons, List.mem_append, List.mem_cons, List.not_mem_nil, or_false, ne_eq, List.nodup_nil, not_false_eq_true, true_and]
        refine ⟨hn3, ⟨⟨hn1, ⟨kn, hn2, fun a ha c hc' hac => (hF0 a ha).2.2.2 (hac ▸ hc')⟩, fun a ha c hc' hac => ?_⟩, fun a ha c hc' hac => ?_⟩, fun a ha c hc' hac => ?_⟩
        · subst hac
          rcases hc' with h | h
          · exact (hF0 a h).2.2.1 ha
          · exact hn1G a ha a (.inr h) rfl
        · subst hac
          rcases hc' with h | h | h
          · exact hng g rfl a (.inl h) ha.symm
          · exact (hF0 a h).2.1 ha
          · exact hng g rfl a (.inr (.inr h)) ha.symm
        · subst hac
          rcases hc' with h | h | h | h
          · exact hn3d a ha a (.inl h) rfl
          · exact hn3d a ha a (.inr (.inl h)) rfl
          · exact (hF0 a h).1 ha
          · exact hn3d a ha a (.inr (.inr (.inr h))) rfl
      · intro hmem
        simp only [List.mem_append, List.mem_cons, List.not_mem_nil, or_false] at hmem
        rw [memF] at hb
        rcases hmem with h | h | h | h | h
        · exact hb (.inl h)
        · exact hb (.inr (.inl h))
        · exact hb (.inr (.inr (.inl h)))
        · rcases ks b0 h with h | h
          · exact hb (.inr (.inr (.inr (.inl h))))
          · rcases h7 b0 h with h | ⟨_, h⟩
            · exact hb (.inr (.inr (.inr (.inl (hGF b0 h)))))
            · exact h rfl
        · exact hb (.inr (.inr (.inr (.inr h))))
      · intro k hk
        rw [hbg, memF]
        simp only [List.mem_append, List.mem_cons, List.not_mem_nil, or_false] at hk
        rcases hk with h | h | h | h | h
        · exact .inl (.inl h)
        · exact .inl (.inr (.inl h))
        · exact .inl (.inr (.inr (.inl h)))
        · rcases ks k h with h | h
          · exact .inl (.inr (.inr (.inr (.inl h))))
          · exact .inr h
        · exact .inl (.inr (.inr (.inr (.inr h))))
end Go.Proofs.YtlemlgllkcgigaaGreatDoor
namespace Go.Proofs.YtlemlgllkcgigaaGreatDoor
open Go.RowKit

/-- The document at b, off is x' now. -/
def SetOk (w : World) (base : Nat) (x' : D) (b off : Nat) (G FY : List Nat) (w' : World) : Prop :=
  ∃ (y0 y1 y2 y3 y4 : Value) (G' : List Nat), UpdBlk w w' b off ∧ Cells5 w' b off y0 y1 y2 y3 y4 ∧ OwnIn w' base x' y0 y1 y2 y3 y4 G' ∧ G'.Nodup ∧ b ∉ G' ∧ (∀ k ∈ G', k ∈ G ∨ k ∈ FY ∨ w.heap.size ≤ k) ∧ Turned w w' G b

theorem SetOk.drew {w w' : World} {base b off : Nat} {x' : D} {G FY : List Nat} (h : SetOk w base x' b off G FY w') : SetOk w base x' b off G FY w'.drew := by
  obtain ⟨y0, y1, y2, y3, y4, G', h1, h2, h3, h4, h5, h6, h7⟩ := h
  exact ⟨y0, y1, y2, y3, y4, G', h1.same rfl, h2.keep fun _ => rfl, h3.same (Nat.le_refl _) fun _ _ => rfl, h4, h5, h6, h7.drew⟩
theorem Cells5.setAll {w : World} {b off : Nat} {v0 v1 v2 v3 v4 : Value} (h : Cells5 w b off v0 v1 v2 v3 v4) (y0 y1 y2 y3 y4 : Value) :
    Cells5 (((((w.setCell ⟨b, off, none⟩ y0).setCell ⟨b, off + 1, none⟩ y1).setCell ⟨b, off + 2, none⟩ y2).setCell ⟨b, off + 3, none⟩ y3).setCell ⟨b, off + 4, none⟩ y4) b off y0 y1 y2 y3 y4 := by
  obtain ⟨h0, h1, h2, h3, h4⟩ := h
  constructor <;> go_simp
def D.snoc (d : D) (y : D) : D := .mk d.kind d.num d.str d.keys (d.kids ++ [y])

set_option maxHeartbeats 4000000 in
set_option maxRecDepth 100000 in
theorem set_there {x y : D} {u0 u1 u2 u3 u4 y0 y1 y2 y3 y4 : Value} {s : ByteArray} {w : World} {base b off i : Nat} {G FY : List Nat} (hf : x.Fit) (hs : Short s) (hg : Glob w) (hc : Cells5 w b off u0 u1 u2 u3 u4) (hx : OwnIn w base x u0 u1 u2 u3 u4 G) (hn : G.Nodup) (hb : b ∉ G)
    (hblk : ∃ cur : Array Value, w.heap[b]? = some (.cells cur 29 (0, 0))) (hy : OwnIn w base y y0 y1 y2 y3 y4 FY) (hyn : FY.Nodup) (hdis : ∀ k ∈ FY, k ∉ G ∧ k ≠ b) (hst : stepD x s = some i) :
    Calls Tryz.prog 61 #[.pointer (some ⟨b, off, none⟩), .string s, .agg #[y0, y1, y2, y3, y4]] w fun e w' => e = .returned (.bool true) ∧ SetOk w base (x.setKid i y) b off G FY w' := by
  obtain ⟨hik, hfi⟩ := stepD_lt hf.keys hst
  have hkl := hf.kids
  have HX := Lib.hid hx; have HY := Lib.hid hy; have HC := Lib.hid hc; have HF := Lib.hid hf; have HS := Lib.hid hs; have HG := Lib.hid hg; have HFI := Lib.hid hfi
  have hbl := hc.lt
  obtain ⟨e0, e1, e2, hk3, cs, Fs, hr4, hkids, rfl⟩ := hx.parts
  obtain ⟨g, cap, rfl, hgb, hgl⟩ := hr4.form (by omega)
  obtain ⟨f0, f1, f2, f3, f4, G0, hfo⟩ := focus [i] x x.kids[i] b off _ _ _ _ _ _ g (i * 5) hblk hc hx hn hb (by simp [D.subAt, List.getElem?_eq_getElem hik]) ⟨g, 0, _, _, hc.c4, by simp [Leads]⟩
  have HFO := Lib.hid hfo
  obtain ⟨A3, c3, A4, c4, rfl, rfl, rfl, rfl, rfl⟩ := hy.doc.forms
  obtain ⟨X3, d3, X4, d4, q0, q1, q2, q3, q4⟩ := hx.doc.forms
  subst q0; subst q1; subst q2; subst q3
  injection q4 with q4 _ q5
  obtain ⟨p0, p1, p2, p3, p4⟩ := hc
  have hcap : x.kids.length ≤ cap := hx.doc.kids_.2.1
  have hgcur : ∃ cur : Array Value, w.heap[g]? = some (.cells cur 29 (0, 0)) := by
    rcases hr4.2 with ⟨e, _⟩ | ⟨g', cap', cur0, e, _, hh, _⟩
    · cases e
    · injection e with e _ _
      injection e with e
      injection e with e
      subst e
      exact ⟨cur0, hh⟩
  have HGC := Lib.hid hgcur; have HBK := Lib.hid hblk; have HDIS := Lib.hid hdis; have HNB := Lib.hid hb
  clear hgcur hblk hdis hb
  clear hx hy hf hs hg hst hfi hr4 hk3 hkids e0 e1 e2 q4 q5 hfo
  go_enter Tryz.func61, Tryz.ntmps61
  go_wp2_with fail
  refine (find_any (B := w.heap.size) HF.out HS.out (HG.out.alloc _) (by simp) (HX.out.doc.keep (Nat.le_refl _) fun p hp => World.cell?_alloc_lt w _ p hp)).mono ?_
  rintro e w1 ⟨rfl, hb1⟩
  rw [HFI.out]
  have hz1 := hb1.size
  simp only [World.size_alloc] at hz1
  have k1 : ∀ o, w1.cell? ⟨b, o, none⟩ = w.cell? ⟨b, o, none⟩ := fun o => (hb1.cell (p := ⟨b, o, none⟩) (by simp; omega)).trans (World.cell?_alloc_lt w _ ⟨b, o, none⟩ hbl)
  have k2 : ∀ o, w1.cell? ⟨g, o, none⟩ = w.cell? ⟨g, o, none⟩ := fun o => (hb1.cell (p := ⟨g, o, none⟩) (by simp; omega)).trans (World.cell?_alloc_lt w _ ⟨g, o, none⟩ hgl)
  have hy5 := (Box5.new w (.int .i64 y.kind) (.int .i64 y.num) (.string y.str) (.slice A3 y.keys.length c3) (.slice A4 y.kids.length c4)).same (hb1.block w.heap.size (by simp))
  have hg5 := HFO.out.cells.keep (w' := w1) k2
  rw [← k1] at p0 p1 p2 p3 p4
  obtain ⟨s0, s1, s2, s3, s4⟩ := hy5.cells
  have HG5 := Lib.hid hg5
  obtain ⟨r0, r1, r2, r3, r4⟩ := hg5
  have rf : ∀ o, w1.frozen? ⟨g, o, none⟩ = false := fun o => by
    obtain ⟨cur, hcur⟩ := HGC.out
    have : w1.heap[g]? = some (.cells cur 29 (0, 0)) := (hb1.block g (by simp; omega)).trans ((Below.heap_alloc w _ g hgl).trans hcur)
    simp [World.frozen?, this]
  have hgne : g ≠ w.heap.size := by omega
  have hil : (i : Int) < (x.kids.length : Int) := by omega
  have hi0 : (0 : Int) ≤ (i : Int) := by omega
  clear hy5 k1 k2
  go_wp2_with fail
  refine wp_region_still_tail 7 (by kernel_rfl) (by kernel_rfl) ?_
  change wpStill _ _ (World.drew w1) (fun a' => wpList _ _ _ _ a' (World.drew w1)) _ _
  simp only [List.take_succ_cons, List.take_zero, List.drop_succ_cons, List.drop_zero]
  repeat still_step
  refine wpStill_nil ?_
  go_wp2_with fail
  go_ret
  refine ⟨rfl, ?_⟩
  have hgx := HFO.out; have hgcur := HGC.out; have hblk := HBK.out; have hdis := HDIS.out; have hb := HNB.out
  have hgm : g ∈ blk (.slice X3 x.keys.length d3) ++ (blk (.slice (some ⟨g, 0, none⟩) x.kids.length cap) ++ Fs) := by simp [blk, Value.ownBlock]
  have hbg : b ≠ g := fun h => hb (h ▸ hgm)
  have ht1 : Turned w w1 (blk (.slice X3 x.keys.length d3) ++ (blk (.slice (some ⟨g, 0, none⟩) x.kids.length cap) ++ Fs)) b := Turned.of_below (((Below.refl _ _).alloc (Nat.le_refl _) _).trans (hb1.mono (by simp))) _ _
  have ht2 := ((((ht1.setCell (p := ⟨g, i * 5, none⟩) (.inl hgm) (.int .i64 y.kind)).setCell (p := ⟨g, i * 5 + 1, none⟩) (.inl hgm) (.int .i64 y.num)).setCell (p := ⟨g, i * 5 + 2, none⟩) (.inl hgm) (.string y.str)).setCell (p := ⟨g, i * 5 + 3, none⟩) (.inl hgm) (.slice A3 y.keys.length c3)).setCell (p := ⟨g, i * 5 + 4, none⟩) (.inl hgm) (.slice A4 y.kids.length c4)
  have hfar : ∀ k, k ≠ g → k < w.heap.size → (((((w1.setCell ⟨g, i * 5, none⟩ (.int .i64 y.kind)).setCell ⟨g, i * 5 + 1, none⟩ (.int .i64 y.num)).setCell ⟨g, i * 5 + 2, none⟩ (.string y.str)).setCell ⟨g, i * 5 + 3, none⟩ (.slice A3 y.keys.length c3)).setCell ⟨g, i * 5 + 4, none⟩ (.slice A4 y.kids.length c4)).heap[k]? = w.heap[k]? := fun k hk hk2 => by
    rw [Below.heap_setCell _ _ _ k hk, Below.heap_setCell _ _ _ k hk, Below.heap_setCell _ _ _ k hk, Below.heap_setCell _ _ _ k hk, Below.heap_setCell _ _ _ k hk]
    exact (hb1.block k (by simp; omega)).trans (Below.heap_alloc w _ k hk2)
  obtain ⟨curb, hcurb⟩ := hblk
  have hub : UpdBlk w w1 g (i * 5) := by
    obtain ⟨cur, hcur⟩ := hgcur
    exact (UpdBlk.refl _ hcur).same ((hb1.block g (by simp; omega)).trans (Below.heap_alloc w _ g hgl))
  have hu2 := ((((hub.setCell (o := i * 5) (by omega) (by omega) (.int .i64 y.kind)).setCell (o := i * 5 + 1) (by omega) (by omega) (.int .i64 y.num)).setCell (o := i * 5 + 2) (by omega) (by omega) (.string y.str)).setCell (o := i * 5 + 3) (by omega) (by omega) (.slice A3 y.keys.length c3)).setCell (o := i * 5 + 4) (by omega) (by omega) (.slice A4 y.kids.length c4)
  have hGl := HX.out.lt
  have hYl := HY.out.lt
  obtain ⟨z0, z1, z2, z3, z4, F', k1, k2, k3, k4, k5⟩ := hgx.back (((((w1.setCell ⟨g, i * 5, none⟩ (.int .i64 y.kind)).setCell ⟨g, i * 5 + 1, none⟩ (.int .i64 y.num)).setCell ⟨g, i * 5 + 2, none⟩ (.string y.str)).setCell ⟨g, i * 5 + 3, none⟩ (.slice A3 y.keys.length c3)).setCell ⟨g, i * 5 + 4, none⟩ (.slice A4 y.kids.length c4)) y _ _ _ _ _ FY (fun k hk _ hkg => hfar k hkg (hGl k hk).2) (fun h => hfar b h hbl) hu2 (HG5.out.setAll _ _ _ _ _)
    (HY.out.same (Nat.le_refl _) fun k hk => hfar k (fun h => (hdis k hk).1 (h ▸ hgm)) (hYl k hk).2) hyn (fun k hk => .inr (hdis k hk)) (fun h => (hdis g h).1 hgm)
  have hrep : D.repl x [i] y = x.setKid i y := by simp [D.repl, List.getElem?_eq_getElem hik]
  rw [hrep] at k2
  have l1 := (UpdBlk.refl off hcurb).same (hfar b hbg hbl)
  have l2 : ∀ k ∈ F', k ∈ blk (.slice X3 x.keys.length d3) ++ (blk (.slice (some ⟨g, 0, none⟩) x.kids.length cap) ++ Fs) ∨ k ∈ FY ∨ w.heap.size ≤ k := fun k hk => by
    rcases k5 k hk with h | h
    · exact .inl h
    · exact .inr (.inl h)
  exact SetOk.drew ⟨z0, z1, z2, z3, z4, F', l1, k1, k2, k3, k4, l2, ht2⟩
end Go.Proofs.YtlemlgllkcgigaaGreatDoor
namespace Go.Proofs.YtlemlgllkcgigaaGreatDoor
open Go.RowKit

theorem setCell_comm (w : World) (p q : Addr) (u v : Value) (hne : p.block ≠ q.block) : (w.setCell p u).setCell q v = (w.setCell q v).setCell p u := by
  have : ∀ (h : Array Obj) (f f' : Obj → Obj), (h.modify p.block f).modify q.block f' = (h.modify q.block f').modify p.block f := by
    intro h f f'
    apply Array.ext_getElem?
    intro i
    simp only [Array.getElem?_modify]
    by_cases h1 : p.block = i
    · by_cases h2 : q.block = i
      · exact absurd (h1.trans h2.symm) hne
      · simp [h1, h2]
    · by_cases h2 : q.block = i <;> simp [h1, h2]
  simp only [World.setCell, this]
theorem own_last5 {w : World} {base g cap n : Nat} {cs : List Value} {a0 a1 a2 a3 a4 : Value} (h : w.ownsRow base 29 5 (.slice (some ⟨g, 0, none⟩) (n + 1) cap) (n + 1) (cs ++ [a0, a1, a2, a3, a4])) (hl : cs.length = n * 5) : Cells5 w g (n * 5) a0 a1 a2 a3 a4 := by
  constructor <;> (rw [h.cellAt _ (by omega), List.getElem?_append_right (by omega)]; simp [hl])
theorem ne_of_at {v : Value} {g H b : Nat} (h : v.ownBlock = some g ∨ g = H) (ha : v.ownBlock ≠ some b) (hb : b < H) : b ≠ g := by
  rcases h with h | h
  · rintro rfl; exact ha h
  · omega
theorem push_fin {x y : D} {w w2 w3 : World} {base b off g cap d3 d4 c3 c4 : Nat} {X3 X4 A3 A4 : Option Addr} {G FY Fs : List Nat} {cs : List Value} (hblk : ∃ cur : Array Value, w.heap[b]? = some (.cells cur 29 (0, 0)))
    (hce : Cells5 w b off (.int .i64 x.kind) (.int .i64 x.num) (.string x.str) (.slice X3 x.keys.length d3) (.slice X4 x.kids.length d4)) (hn : G.Nodup) (hb : b ∉ G)
    (hy : OwnIn w base y (.int .i64 y.kind) (.int .i64 y.num) (.string y.str) (.slice A3 y.keys.length c3) (.slice A4 y.kids.length c4) FY) (hyn : FY.Nodup) (hdis : ∀ k ∈ FY, k ∉ G ∧ k ≠ b) (hbb : Below w.heap.size w w2)
    (hk3 : w.ownsRow base 9 1 (.slice X3 x.keys.length d3) x.keys.length (x.keys.map Value.string)) (hr4 : w.ownsRow base 29 5 (.slice X4 x.kids.length d4) x.kids.length cs) (hkd : OwnKids w base x.kids cs Fs)
    (hG : G = blk (.slice X3 x.keys.length d3) ++ (blk (.slice X4 x.kids.length d4) ++ Fs)) (ob : Obj) (hgrow : (w2.alloc ob).drew.grownBy w3 (Value.slice X4 x.kids.length d4).ownBlock)
    (hat : (Value.slice X4 x.kids.length d4).ownBlock = some g ∨ g = w2.heap.size + 1) {a0 a1 a2 a3 a4 : Value} (ho3 : w3.ownsRow base 29 5 (.slice (some ⟨g, 0, none⟩) (x.kids.length + 1) cap) (x.kids.length + 1) (cs ++ [a0, a1, a2, a3, a4])) :
    SetOk w base (x.snoc y) b off G FY ((((((w3.setCell ⟨g, x.kids.length * 5, none⟩ (.int .i64 y.kind)).setCell ⟨g, x.kids.length * 5 + 1, none⟩ (.int .i64 y.num)).setCell ⟨g, x.kids.length * 5 + 2, none⟩ (.string y.str)).setCell ⟨g, x.kids.length * 5 + 3, none⟩ (.slice A3 y.keys.length c3)).setCell
      ⟨g, x.kids.length * 5 + 4, none⟩ (.slice A4 y.kids.length c4)).setCell ⟨b, off + 4, none⟩ (.slice (some ⟨g, 0, none⟩) (x.kids.length + 1) cap)) := by
  have hbl := hce.lt
  have hz := hbb.size
  have hcl : cs.length = x.kids.length * 5 := hr4.1
  have lr4 := hr4.lt
  have lk3 := hk3.lt
  have lkd := hkd.lt
  have lY := hy.lt
  have ob4 : ∀ k, (Value.slice X4 x.kids.length d4).ownBlock = some k → k ∈ G := fun k hk => by rw [hG]; simp [blk_mem, hk]
  have hgb : b ≠ g := by
    rcases hat with h | h
    · exact fun e => hb (e ▸ ob4 g h)
    · omega
  have hgw : g ∈ G ∨ w.heap.size ≤ g := by
    rcases hat with h | h
    · exact .inl (ob4 g h)
    · exact .inr (by omega)
  have w3far : ∀ k, k < w.heap.size → (Value.slice X4 x.kids.length d4).ownBlock ≠ some k → w3.heap[k]? = w.heap[k]? := fun k hk hne =>
    (hgrow.block k (by show k < (w2.alloc ob).heap.size; rw [World.size_alloc]; omega) (fun e => hne e.symm)).trans ((Below.heap_alloc w2 ob k (by omega)).trans (hbb.block k hk))
  have chfar : ∀ k, k ≠ g → (((((w3.setCell ⟨g, x.kids.length * 5, none⟩ (.int .i64 y.kind)).setCell ⟨g, x.kids.length * 5 + 1, none⟩ (.int .i64 y.num)).setCell ⟨g, x.kids.length * 5 + 2, none⟩ (.string y.str)).setCell ⟨g, x.kids.length * 5 + 3, none⟩ (.slice A3 y.keys.length c3)).setCell
      ⟨g, x.kids.length * 5 + 4, none⟩ (.slice A4 y.kids.length c4)).heap[k]? = w3.heap[k]? := fun k hk => by
    rw [Below.heap_setCell _ _ _ k hk, Below.heap_setCell _ _ _ k hk, Below.heap_setCell _ _ _ k hk, Below.heap_setCell _ _ _ k hk, Below.heap_setCell _ _ _ k hk]
  have hbX : (Value.slice X4 x.kids.length d4).ownBlock ≠ some b := fun h => hb (ob4 b h)
  have hl5 := own_last5 ho3 hcl
  have hgc : ∃ cur : Array Value, w3.heap[g]? = some (.cells cur 29 (0, 0)) := by
    rcases ho3.2 with ⟨e, _⟩ | ⟨g', cap', cur0, e, _, hh, _⟩
    · cases e
    · injection e with e _ _
      injection e with e
      injection e with e
      subst e
      exact ⟨cur0, hh⟩
  obtain ⟨curg, hcurg⟩ := hgc
  have hu2 := (((((UpdBlk.refl (x.kids.length * 5) hcurg).setCell (o := x.kids.length * 5) (by omega) (by omega) (.int .i64 y.kind)).setCell (o := x.kids.length * 5 + 1) (by omega) (by omega) (.int .i64 y.num)).setCell (o := x.kids.length * 5 + 2) (by omega) (by omega) (.string y.str)).setCell
    (o := x.kids.length * 5 + 3) (by omega) (by omega) (.slice A3 y.keys.length c3)).setCell (o := x.kids.length * 5 + 4) (by omega) (by omega) (.slice A4 y.kids.length c4)
  have hrow := ownsRow_upd (c2 := []) ho3 hcl hu2 (hl5.setAll (.int .i64 y.kind) (.int .i64 y.num) (.string y.str) (.slice A3 y.keys.length c3) (.slice A4 y.kids.length c4))
  have h0 : Turned w w3 G b := ⟨hgrow.os.trans hbb.os, hgrow.tape.trans hbb.tape, hgrow.output.trans hbb.output, Nat.le_trans hz (Nat.le_trans (by show w2.heap.size ≤ (w2.alloc ob).heap.size; rw [World.size_alloc]; omega) hgrow.size), fun k hk hkG _ => w3far k hk fun h => hkG (ob4 k h)⟩
  have hgw' : g ∈ G ∨ g = b ∨ w.heap.size ≤ g := hgw.elim .inl fun h => .inr (.inr h)
  have ht := (((((h0.setCell (p := ⟨g, x.kids.length * 5, none⟩) hgw' (.int .i64 y.kind)).setCell (p := ⟨g, x.kids.length * 5 + 1, none⟩) hgw' (.int .i64 y.num)).setCell (p := ⟨g, x.kids.length * 5 + 2, none⟩) hgw' (.string y.str)).setCell (p := ⟨g, x.kids.length * 5 + 3, none⟩) hgw' (.slice A3 y.keys.length c3)).setCell
    (p := ⟨g, x.kids.length * 5 + 4, none⟩) hgw' (.slice A4 y.kids.length c4)).setCell (p := ⟨b, off + 4, none⟩) (.inr (.inl rfl)) (.slice (some ⟨g, 0, none⟩) (x.kids.length + 1) cap)
  generalize hW : (((((w3.setCell ⟨g, x.kids.length * 5, none⟩ (.int .i64 y.kind)).setCell ⟨g, x.kids.length * 5 + 1, none⟩ (.int .i64 y.num)).setCell ⟨g, x.kids.length * 5 + 2, none⟩ (.string y.str)).setCell ⟨g, x.kids.length * 5 + 3, none⟩ (.slice A3 y.keys.length c3)).setCell
      ⟨g, x.kids.length * 5 + 4, none⟩ (.slice A4 y.kids.length c4)) = W at chfar hrow hu2 ht ⊢
  clear hW
  have hWb : W.heap[b]? = w.heap[b]? := (chfar b hgb).trans (w3far b hbl hbX)
  obtain ⟨curb, hcurb⟩ := hblk
  have hfar : ∀ k, k < w.heap.size → k ≠ g → k ≠ b → (Value.slice X4 x.kids.length d4).ownBlock ≠ some k → (W.setCell ⟨b, off + 4, none⟩ (.slice (some ⟨g, 0, none⟩) (x.kids.length + 1) cap)).heap[k]? = w.heap[k]? := fun k h1 h2 h3 h4 =>
    (Below.heap_setCell W _ _ k h3).trans ((chfar k h2).trans (w3far k h1 h4))
  have hWc : Cells5 W b off (.int .i64 x.kind) (.int .i64 x.num) (.string x.str) (.slice X3 x.keys.length d3) (.slice X4 x.kids.length d4) := hce.keep fun o => World.cell?_of_block (a := ⟨b, o, none⟩) hWb
  rw [hG] at hn hb hdis
  have memG : ∀ k, k ∈ blk (.slice X3 x.keys.length d3) ++ (blk (.slice X4 x.kids.length d4) ++ Fs) ↔ k ∈ blk (.slice X3 x.keys.length d3) ∨ k ∈ blk (.slice X4 x.kids.length d4) ∨ k ∈ Fs := fun k => by simp [List.mem_append]
  simp only [List.nodup_append, List.mem_append, ne_eq] at hn
  obtain ⟨n3, ⟨_, nF, n4F⟩, n3d⟩ := hn
  have hg3 : g ∉ blk (.slice X3 x.keys.length d3) := fun h => by
    rcases hat with h' | h'
    · exact n3d g h g (.inl (blk_mem.2 h')) rfl
    · have := lk3 g (blk_mem.1 h); omega
  have hgF : g ∉ Fs := fun h => by
    rcases hat with h' | h'
    · exact n4F g (blk_mem.2 h') g h rfl
    · have := lkd g h; omega
  have hgY : g ∉ FY := fun h => by
    rcases hat with h' | h'
    · exact (hdis g h).1 ((memG g).2 (.inr (.inl (blk_mem.2 h'))))
    · have := lY g h; omega
  have c4' : ∀ o, o ≠ off + 4 → (W.setCell ⟨b, off + 4, none⟩ (.slice (some ⟨g, 0, none⟩) (x.kids.length + 1) cap)).cell? ⟨b, o, none⟩ = W.cell? ⟨b, o, none⟩ := fun o ho => World.cell?_setCell_other _ _ _ _ (by intro e; injection e with _ e _; exact ho e.symm)
  refine ⟨.int .i64 x.kind, .int .i64 x.num, .string x.str, .slice X3 x.keys.length d3, .slice (some ⟨g, 0, none⟩) (x.kids.length + 1) cap, blk (.slice X3 x.keys.length d3) ++ ([g] ++ (Fs ++ FY)),
    ((UpdBlk.refl off hcurb).same hWb).setCell (by omega) (by omega) _, ⟨(c4' _ (by omega)).trans hWc.c0, (c4' _ (by omega)).trans hWc.c1, (c4' _ (by omega)).trans hWc.c2, (c4' _ (by omega)).trans hWc.c3, ?_⟩, ?_, ?_, ?_, ?_, ?_⟩
  · exact World.cell?_setCell_same _ _ _ hWc.c4
  · have hlen : (x.snoc y).kids.length = x.kids.length + 1 := by simp [D.snoc, D.kids]
    have := OwnIn.make (d := x.snoc y) (w := W.setCell ⟨b, off + 4, none⟩ (.slice (some ⟨g, 0, none⟩) (x.kids.length + 1) cap)) (base := base) (v3 := .slice X3 x.keys.length d3) (v4 := .slice (some ⟨g, 0, none⟩) (x.kids.length + 1) cap)
      (cs := cs ++ [.int .i64 y.kind, .int .i64 y.num, .string y.str, .slice A3 y.keys.length c3, .slice A4 y.kids.length c4]) (Fs := Fs ++ FY)
      (ownsRow_same hk3 fun k hk => hfar k (lk3 k (blk_mem.1 hk)).2 (fun h => hg3 (h ▸ hk)) (fun h => hb ((memG b).2 (.inl (h ▸ hk)))) (fun h => n3d k hk k (.inl (blk_mem.2 h)) rfl))
      (by rw [hlen]; exact ownsRow_same hrow fun k hk => Below.heap_setCell W _ _ k (by
            have : k = g := by simpa [blk, Value.ownBlock] using hk
            rw [this]; exact fun h => hgb h.symm))
      (by
        show OwnKids _ _ (x.kids ++ [y]) _ _
        exact OwnKids.push (hy.same (Nat.le_refl _) fun k hk => hfar k (lY k hk).2 (fun h => hgY (h ▸ hk)) (hdis k hk).2 (fun h => (hdis k hk).1 ((memG k).2 (.inr (.inl (blk_mem.2 h)))))) (hkd.same (Nat.le_refl _) fun k hk => hfar k (lkd k hk).2 (fun h => hgF (h ▸ hk)) (fun h => hb ((memG b).2 (.inr (.inr (h ▸ hk))))) (fun h => n4F k (blk_mem.2 h) k hk rfl)))
    exact this
  · simp only [List.nodup_append, List.nodup_cons, List.mem_append, List.mem_cons, List.not_mem_nil, or_false, ne_eq, List.nodup_nil, not_false_eq_true, true_and]
    refine ⟨n3, ⟨⟨nF, hyn, fun a ha c hc hac => (hdis c hc).1 ((memG c).2 (.inr (.inr (hac ▸ ha))))⟩, fun a ha c hc hac => ?_⟩, fun a ha c hc hac => ?_⟩
    · subst hac; subst ha
      rcases hc with h | h
      · exact hgF h
      · exact hgY h
    · subst hac
      rcases hc with h | h | h
      · exact hg3 (h ▸ ha)
      · exact n3d a ha a (.inr h) rfl
      · exact (hdis a h).1 ((memG a).2 (.inl ha))
  · intro hm
    simp only [List.mem_append, List.mem_cons, List.not_mem_nil, or_false] at hm
    rcases hm with h | h | h | h
    · exact hb ((memG b).2 (.inl h))
    · exact hgb h
    · exact hb ((memG b).2 (.inr (.inr h)))
    · exact (hdis b h).2 rfl
  · intro k hk
    simp only [List.mem_append, List.mem_cons, List.not_mem_nil, or_false] at hk
    rw [hG, memG]
    rcases hk with h | h | h | h
    · exact .inl (.inl h)
    · subst h
      rcases hat with h' | h'
      · exact .inl (.inr (.inl (blk_mem.2 h')))
      · exact .inr (.inr (by omega))
    · exact .inl (.inr (.inr h))
    · exact .inr (.inl h)
  · exact ht
end Go.Proofs.YtlemlgllkcgigaaGreatDoor
namespace Go.Proofs.YtlemlgllkcgigaaGreatDoor
open Go.RowKit

theorem delStr_any {w : World} {base g cap i : Nat} {xs : List ByteArray} (hown : w.ownsRow base 9 1 (.slice (some ⟨g, 0, none⟩) xs.length cap) xs.length (xs.map Value.string)) (hi : i < xs.length) (hn : xs.length ≤ 10000) :
    Calls Tryz.prog 101 #[.slice (some ⟨g, 0, none⟩) xs.length cap, .int .i64 i, .int .i64 ((i : Int) + 1)] w fun e w' =>
      e = .returned (.slice (some ⟨g, 0, none⟩) (xs.length - 1) cap) ∧ w'.ownsRow base 9 1 (.slice (some ⟨g, 0, none⟩) (xs.length - 1) cap) (xs.length - 1) ((xs.take i ++ xs.drop (i + 1)).map Value.string) ∧ w.grownBy w' (some g) := by
  obtain ⟨cur, hcur, hbase, hncap, hcapm, hcsz, htake⟩ : ∃ cur : Array Value, w.heap[g]? = some (.cells cur 9 (0, 0)) ∧ base ≤ g ∧ xs.length ≤ cap ∧ cap ≤ maxLen ∧ cur.size = cap * 1 ∧ cur.toList.take (xs.length * 1) = xs.map Value.string := by
    rcases hown.2 with ⟨e, _⟩ | ⟨g', cap', cur, e, hg, hh, a1, a2, a3, a4⟩
    · cases e
    · injection e with e _ e3
      injection e with e
      injection e with e
      subst e; subst e3
      exact ⟨cur, hh, hg, a1, a2, a3, a4⟩
  have hcm : cap ≤ 9223372036854775807 := hcapm
  have hcell : ∀ j, j < xs.length → w.cell? ⟨g, 0 + j, none⟩ = some (.string (xs.getD j ByteArray.empty)) := fun j hj => by
    rw [Nat.zero_add, hown.cellAt j (by omega)]; simp [List.getD, hj]
  have hfz : ∀ j, j < xs.length → w.frozen? ⟨g, 0 + j, none⟩ = false := fun j _ => hown.frozenAt _
  have h := Tryz.slices_Delete_string_cells g 0 xs.length cap i (i + 1) (fun j => xs.getD j ByteArray.empty) w hncap hcm (by omega) (by omega) hcell hfz
  have hcast : ((i + 1 : Nat) : Int) = (i : Int) + 1 := by omega
  rw [hcast] at h
  refine h.mono ?_
  rintro e w' ⟨rfl, q, rfl⟩
  have hstr : Lib.strsOf (fun j => xs.getD j ByteArray.empty) xs.length = xs.map (fun s => s.data.toList) := by
    apply List.ext_getElem?
    intro j
    simp only [Lib.strsOf, List.getElem?_map]
    by_cases hj : j < xs.length
    · simp [hj, List.getD]
    · simp [hj]
  rw [hstr, show i + 1 - i = 1 from by omega]
  generalize hvs : (((xs.map fun s : ByteArray => s.data.toList).take i ++ (xs.map fun s : ByteArray => s.data.toList).drop (i + 1) ++ List.replicate 1 []).map Go.Proofs.encStr) = vs
  have hvl : vs.length = xs.length := by rw [← hvs]; simp; omega
  have hv : ∀ j, j < xs.length - 1 → vs[j]? = ((xs.take i ++ xs.drop (i + 1)).map Value.string)[j]? := fun j hj => by
    rw [← hvs, List.map_append, List.getElem?_append_left (by simp; omega), ← List.map_take, ← List.map_drop, ← List.map_append, List.map_map]
    congr 2
  obtain ⟨cur2, d1, d2, d3⟩ := setCells_block (g := g) (T := 9) (fr := (0, 0)) vs 0 (w.drewN q) cur hcur
  refine ⟨rfl, ⟨by simp; omega, .inr ⟨g, cap, cur2, rfl, hbase, d1, by omega, hcapm, by omega, ?_⟩⟩, ?_⟩
  · apply List.ext_getElem?
    intro j
    rw [List.getElem?_take]
    by_cases hj : j < (xs.length - 1) * 1
    · rw [if_pos hj, Array.getElem?_toList, d3 j, if_pos ⟨by omega, by omega, by omega⟩, Nat.sub_zero, hv j (by omega)]
    · rw [if_neg hj, List.getElem?_eq_none (by simp; omega)]
  · have t1 := tape_setCells (g := g) vs 0 (w.drewN q)
    refine ⟨t1.2.1, t1.1, t1.2.2, ?_, fun k _ hne => ?_⟩
    · rw [size_setCells]; exact Nat.le_refl _
    · exact heap_setCells_far (fun h => hne (by rw [h])) _ _ _

def D.dropKid (d : D) (i : Nat) : D := .mk d.kind d.num d.str (if d.kind = 3 then d.keys else d.keys.take i ++ d.keys.drop (i + 1)) (d.kids.take i ++ d.kids.drop (i + 1))

theorem oneCell_own {w : World} {base : Nat} : ∀ {l : List D} {cs : List Value} {F : List Nat}, OwnKids w base l cs F → ∀ u ∈ cs, u.oneCell' = true
  | [], _, _, h, u, hu => by
    simp only [OwnKids] at h
    rw [h.1] at hu; simp at hu
  | d :: r, _, _, h, u, hu => by
    simp only [OwnKids] at h
    obtain ⟨v0, v1, v2, v3, v4, cs', F1, F2, rfl, h2, h3, rfl⟩ := h
    rcases List.mem_append.1 (show u ∈ [v0, v1, v2, v3, v4] ++ cs' by simpa using hu) with h | h
    · exact oneCell_agg h2.doc u h
    · exact oneCell_own h3 u h

theorem unset_fin {x : D} {w W : World} {base b off i g cap : Nat} {v3 v3' : Value} {G Fs : List Nat} {cs : List Value} (hc : Cells5 W b off (.int .i64 x.kind) (.int .i64 x.num) (.string x.str) v3' (.slice (some ⟨g, 0, none⟩) (x.kids.length - 1) cap)) (hupd : UpdBlk w W b off)
    (h3 : W.ownsRow base 9 1 v3' (x.dropKid i).keys.length ((x.dropKid i).keys.map Value.string)) (hb3 : blk v3' = blk v3) (h4 : W.ownsRow base 29 5 (.slice (some ⟨g, 0, none⟩) (x.kids.length - 1) cap) (x.kids.length - 1) (cs.take (i * 5) ++ cs.drop ((i + 1) * 5)))
    (hkd : OwnKids w base x.kids cs Fs) (hfr : ∀ k ∈ Fs, W.heap[k]? = w.heap[k]?) (hG : G = blk v3 ++ ([g] ++ Fs)) (hn : G.Nodup) (hb : b ∉ G) (ht : Turned w W G b) (hik : i < x.kids.length) : SetOk w base (x.dropKid i) b off G [] W := by
  obtain ⟨t0, t1, t2, t3, t4, c1, c2, F1, G0, F2, rfl, hcl, rfl, ok1, okx, ok2⟩ := hkd.split i hik
  have hcs : (c1 ++ (t0 :: t1 :: t2 :: t3 :: t4 :: c2)).take (i * 5) ++ (c1 ++ (t0 :: t1 :: t2 :: t3 :: t4 :: c2)).drop ((i + 1) * 5) = c1 ++ c2 := by
    rw [← hcl, List.take_left]
    congr 1
    rw [List.drop_append, List.drop_eq_nil_of_le (by omega), List.nil_append, show (i + 1) * 5 - c1.length = 5 from by omega]
    rfl
  rw [hcs] at h4
  have hkl : (x.dropKid i).kids.length = x.kids.length - 1 := by
    show (x.kids.take i ++ x.kids.drop (i + 1)).length = _
    simp; omega
  rw [hG] at hn hb
  simp only [List.nodup_append, List.mem_append, ne_eq] at hn
  obtain ⟨n3, ⟨_, ⟨n1, ⟨_, n2, _⟩, n12⟩, ngF⟩, n3d⟩ := hn
  refine ⟨.int .i64 x.kind, .int .i64 x.num, .string x.str, v3', .slice (some ⟨g, 0, none⟩) (x.kids.length - 1) cap, blk v3' ++ ([g] ++ (F1 ++ F2)), hupd, hc, ?_, ?_, ?_, ?_, ht⟩
  · have := OwnIn.make (d := x.dropKid i) (Fs := F1 ++ F2) h3 (by rw [hkl]; exact h4) (by
      show OwnKids W base (x.kids.take i ++ x.kids.drop (i + 1)) _ _
      exact OwnKids.append (ok2.same (Nat.le_refl _) fun k hk => hfr k (by simp [hk])) (ok1.same (Nat.le_refl _) fun k hk => hfr k (by simp [hk])))
    exact this
  · rw [hb3]
    simp only [List.nodup_append, List.nodup_cons, List.mem_append, List.mem_cons, List.not_mem_nil, or_false, ne_eq, List.nodup_nil, not_false_eq_true, true_and]
    refine ⟨n3, ⟨⟨n1, n2, fun a ha c hcc hac => n12 a ha c (.inr hcc) hac⟩, fun a ha c hcc hac => ?_⟩, fun a ha c hcc hac => ?_⟩
    · rcases hcc with h | h
      · exact ngF a (by simp [ha]) c (.inl h) hac
      · exact ngF a (by simp [ha]) c (.inr (.inr h)) hac
    · rcases hcc with h | h | h
      · exact n3d a ha c (.inl (by simp [h])) hac
      · exact n3d a ha c (.inr (.inl h)) hac
      · exact n3d a ha c (.inr (.inr (.inr h))) hac
  · rw [hb3]
    intro hm
    apply hb
    simp only [List.mem_append, List.mem_cons, List.not_mem_nil, or_false] at hm ⊢
    rcases hm with h | h | h | h
    · exact .inl h
    · exact .inr (.inl h)
    · exact .inr (.inr (.inl h))
    · exact .inr (.inr (.inr (.inr h)))
  · intro k hk
    rw [hb3] at hk
    rw [hG]
    simp only [List.mem_append, List.mem_cons, List.not_mem_nil, or_false] at hk ⊢
    rcases hk with h | h | h | h
    · exact .inl (.inl h)
    · exact .inl (.inr (.inl h))
    · exact .inl (.inr (.inr (.inl h)))
    · exact .inl (.inr (.inr (.inr (.inr h))))

set_option maxHeartbeats 4000000 in
set_option maxRecDepth 100000 in
theorem unset_there {x : D} {u0 u1 u2 u3 u4 : Value} {s : ByteArray} {w : World} {base b off i : Nat} {G : List Nat} (hf : x.Fit) (hs : Short s) (hg : Glob w) (hc : Cells5 w b off u0 u1 u2 u3 u4) (hx : OwnIn w base x u0 u1 u2 u3 u4 G) (hn : G.Nodup) (hb : b ∉ G)
    (hblk : ∃ cur : Array Value, w.heap[b]? = some (.cells cur 29 (0, 0))) (hst : stepD x s = some i) (hkk : x.kind ≠ 3 → x.keys.length = x.kids.length) :
    Calls Tryz.prog 62 #[.pointer (some ⟨b, off, none⟩), .string s] w fun e w' => e = .returned (.bool true) ∧ SetOk w base (x.dropKid i) b off G [] w' := by
  obtain ⟨hik, hfi⟩ := stepD_lt hf.keys hst
  have hkl := hf.kids; have hkeys := hf.keys
  have HX := Lib.hid hx; have HC := Lib.hid hc; have HF := Lib.hid hf; have HS := Lib.hid hs; have HG := Lib.hid hg; have HFI := Lib.hid hfi
  have hbl := hc.lt
  obtain ⟨e0, e1, e2, hk3, cs, Fs, hr4, hkids, rfl⟩ := hx.parts
  obtain ⟨g, cap, rfl, hgb, hgl⟩ := hr4.form (by omega)
  obtain ⟨X3, d3, X4, d4, q0, q1, q2, q3, q4⟩ := hx.doc.forms
  subst q0; subst q1; subst q2; subst q3
  clear q4 e0 e1 e2
  obtain ⟨p0, p1, p2, p3, p4⟩ := hc
  have HBK := Lib.hid hblk; have HNB := Lib.hid hb; have HN := Lib.hid hn; have HK3 := Lib.hid hk3; have HR4 := Lib.hid hr4; have HKD := Lib.hid hkids; have HKK := Lib.hid hkk
  have hgm : g ∈ blk (.slice X3 x.keys.length d3) ++ (blk (.slice (some ⟨g, 0, none⟩) x.kids.length cap) ++ Fs) := by simp [blk, Value.ownBlock]
  have hbg : b ≠ g := fun h => hb (h ▸ hgm)
  have hcap : x.kids.length ≤ cap := hx.doc.kids_.2.1
  clear hblk hb hn hk3 hr4 hkids hkk hx hf hs hg hst hfi
  go_enter Tryz.func62, Tryz.ntmps62
  go_wp2_with fail
  refine (find_any (B := w.heap.size) HF.out HS.out HG.out (Nat.le_refl _) HX.out.doc).mono ?_
  rintro e w1 ⟨rfl, hb1⟩
  rw [HFI.out]
  have hz1 := hb1.size
  have k1 : ∀ o, w1.cell? ⟨b, o, none⟩ = w.cell? ⟨b, o, none⟩ := fun o => hb1.cell (p := ⟨b, o, none⟩) hbl
  rw [← k1] at p0 p1 p2 p3 p4
  clear k1
  go_wp2_with fail
  refine (delete_any (ownsRow_same HR4.out fun k hk => hb1.block k (HR4.out.lt k (blk_mem.1 hk)).2) (oneCell_own HKD.out) hik hkl).mono ?_
  rintro e w2 ⟨rfl, hown2, hgr2⟩
  have HO2 := Lib.hid hown2; have HGR2 := Lib.hid hgr2
  have hz2 := hgr2.size
  have k2 : ∀ o, w2.cell? ⟨b, o, none⟩ = w1.cell? ⟨b, o, none⟩ := fun o => World.cell?_of_block (a := ⟨b, o, none⟩) (hgr2.block b (by omega) (by simpa using hbg))
  have f2 : ∀ o, w2.frozen? ⟨b, o, none⟩ = false := fun o => by
    obtain ⟨cur, hcur⟩ := HBK.out
    have : w2.heap[b]? = some (.cells cur 29 (0, 0)) := (hgr2.block b (by omega) (by simpa using hbg)).trans ((hb1.block b hbl).trans hcur)
    simp [World.frozen?, this]
  rw [← k2] at p0 p1 p2 p3 p4
  have HB1 := Lib.hid hb1
  clear hown2 hgr2 k2 hb1
  by_cases hk : x.kind = 3
  · have hk3 : (x.kind != 3) = false := by simp [hk]
    have HK := Lib.hid hk; clear hk
    go_wp2_with fail
    go_ret
    refine ⟨rfl, ?_⟩
    obtain ⟨curb, hcurb⟩ := HBK.out
    have hgm2 : blk (.slice (some ⟨g, 0, none⟩) x.kids.length cap) = [g] := rfl
    have hn := HN.out; have hb := HNB.out
    rw [hgm2] at hn hb ⊢
    have hfar : ∀ k, k < w.heap.size → k ≠ g → k ≠ b → (w2.setCell ⟨b, off + 4, none⟩ (.slice (some ⟨g, 0, none⟩) (x.kids.length - 1) cap)).heap[k]? = w.heap[k]? := fun k h1 h2 h3 =>
      (Below.heap_setCell w2 _ _ k h3).trans ((HGR2.out.block k (by omega) (by simpa using h2)).trans (HB1.out.block k h1))
    have hwb : w2.heap[b]? = w.heap[b]? := (HGR2.out.block b (by omega) (by simpa using hbg)).trans (HB1.out.block b hbl)
    have c4' : ∀ o, o ≠ off + 4 → (w2.setCell ⟨b, off + 4, none⟩ (.slice (some ⟨g, 0, none⟩) (x.kids.length - 1) cap)).cell? ⟨b, o, none⟩ = w2.cell? ⟨b, o, none⟩ := fun o ho => World.cell?_setCell_other _ _ _ _ (by intro e; injection e with _ e _; exact ho e.symm)
    have hkeys' : (x.dropKid i).keys = x.keys := by simp [D.dropKid, D.keys, HK.out]
    have hnn := hn
    simp only [List.nodup_append, List.mem_append, ne_eq] at hnn
    have l3 := HK3.out.lt
    have lF := HKD.out.lt
    refine unset_fin (v3' := .slice X3 x.keys.length d3) ⟨(c4' _ (by omega)).trans p0, (c4' _ (by omega)).trans p1, (c4' _ (by omega)).trans p2, (c4' _ (by omega)).trans p3, World.cell?_setCell_same _ _ _ p4⟩ (((UpdBlk.refl off hcurb).same hwb).setCell (by omega) (by omega) _)
      (by rw [hkeys']; exact ownsRow_same HK3.out fun k hk => hfar k (l3 k (blk_mem.1 hk)).2 (fun h => hnn.2.2 k hk g (.inl (by simp)) h) (fun h => hb (by rw [← h]; simp [hk]))) rfl
      (ownsRow_same HO2.out fun k hk => Below.heap_setCell w2 _ _ k (by
        have : k = g := by simpa [blk, Value.ownBlock] using hk
        rw [this]; exact fun h => hbg h.symm))
      HKD.out (fun k hk => hfar k (lF k hk).2 (fun h => hnn.2.1.2.2 g (by simp) k hk h.symm) (fun h => hb (by rw [← h]; simp [hk]))) rfl hn hb ?_ hik
    exact (((Turned.of_below HB1.out _ b).grown HGR2.out (fun j hj => .inl (by injection hj with hj; simp [← hj]))).setCell (p := ⟨b, off + 4, none⟩) (.inr (.inl rfl)) _)
  · have hk3 : (x.kind != 3) = true := by simp [hk]
    have hkk := HKK.out hk
    have HK := Lib.hid hk; clear hk
    obtain ⟨g3, cap3, hform, hg3b, hg3l⟩ := HK3.out.form (by omega)
    injection hform with hX3 _ hd3
    subst hX3; subst hd3
    have HKE := Lib.hid hkk; clear hkk
    go_wp2_with fail
    have hgm2 : blk (.slice (some ⟨g, 0, none⟩) x.kids.length cap) = [g] := rfl
    have hgm3 : blk (.slice (some ⟨g3, 0, none⟩) x.keys.length d3) = [g3] := rfl
    have hn := HN.out; have hb := HNB.out
    rw [hgm2, hgm3] at hn hb
    have hnn := hn
    simp only [List.nodup_append, List.mem_append, ne_eq] at hnn
    have hg3g : g3 ≠ g := fun h => hnn.2.2 g3 (by simp) g (.inl (by simp)) h
    have hg3b : g3 ≠ b := fun h => hb (by simp [h])
    have hw3 : (w2.setCell ⟨b, off + 4, none⟩ (.slice (some ⟨g, 0, none⟩) (x.kids.length - 1) cap)).heap[g3]? = w.heap[g3]? :=
      (Below.heap_setCell w2 _ _ g3 hg3b).trans ((HGR2.out.block g3 (by omega) (by simpa using hg3g)).trans (HB1.out.block g3 hg3l))
    refine (delStr_any (i := i) (ownsRow_same HK3.out fun k hk => by
      have : k = g3 := by simpa [blk, Value.ownBlock] using hk
      rw [this]; exact hw3) (by have := HKE.out; omega) hkeys).mono ?_
    rintro e w3 ⟨rfl, hown3, hgr3⟩
    have hz3 := hgr3.size
    have hsz : (w2.setCell ⟨b, off + 4, none⟩ (.slice (some ⟨g, 0, none⟩) (x.kids.length - 1) cap)).heap.size = w2.heap.size := by simp [World.setCell]
    rw [hsz] at hz3
    have hwb3 : w3.heap[b]? = (w2.setCell ⟨b, off + 4, none⟩ (.slice (some ⟨g, 0, none⟩) (x.kids.length - 1) cap)).heap[b]? := hgr3.block b (by omega) (by simpa using fun h => hg3b h.symm)
    have r3 : w3.cell? ⟨b, off + 3, none⟩ = some (.slice (some ⟨g3, 0, none⟩) x.keys.length d3) := (World.cell?_of_block (a := ⟨b, off + 3, none⟩) hwb3).trans ((World.cell?_setCell_other _ _ _ _ (by intro e; injection e with _ e _; omega)).trans p3)
    have f3 : ∀ o, w3.frozen? ⟨b, o, none⟩ = false := fun o => (World.frozen?_of_block (a := ⟨b, o, none⟩) hwb3).trans (by
      obtain ⟨cur, hcur⟩ := HBK.out
      have : w2.heap[b]? = some (.cells cur 29 (0, 0)) := (HGR2.out.block b (by omega) (by simpa using hbg)).trans ((HB1.out.block b hbl).trans hcur)
      simp [World.frozen?, World.setCell, Array.getElem?_modify, this])
    have HO3 := Lib.hid hown3; have HGR3 := Lib.hid hgr3; have HWB3 := Lib.hid hwb3
    clear hown3 hgr3 hwb3
    go_wp2_with fail
    go_ret
    refine ⟨rfl, ?_⟩
    obtain ⟨curb, hcurb⟩ := HBK.out
    rw [hgm2, hgm3]
    have l3 := HK3.out.lt
    have lF := HKD.out.lt
    have hwb : w2.heap[b]? = w.heap[b]? := (HGR2.out.block b (by omega) (by simpa using hbg)).trans (HB1.out.block b hbl)
    have hfar : ∀ k, k < w.heap.size → k ≠ g → k ≠ g3 → k ≠ b → (w3.setCell ⟨b, off + 3, none⟩ (.slice (some ⟨g3, 0, none⟩) (x.keys.length - 1) d3)).heap[k]? = w.heap[k]? := fun k h1 h2 h3 h4 =>
      (Below.heap_setCell w3 _ _ k h4).trans ((HGR3.out.block k (by omega) (by simpa using h3)).trans ((Below.heap_setCell w2 _ _ k h4).trans ((HGR2.out.block k (by omega) (by simpa using h2)).trans (HB1.out.block k h1))))
    have c2' : ∀ o, o ≠ off + 4 → (w2.setCell ⟨b, off + 4, none⟩ (.slice (some ⟨g, 0, none⟩) (x.kids.length - 1) cap)).cell? ⟨b, o, none⟩ = w2.cell? ⟨b, o, none⟩ := fun o ho => World.cell?_setCell_other _ _ _ _ (by intro e; injection e with _ e _; exact ho e.symm)
    have c3' : ∀ o, o ≠ off + 3 → (w3.setCell ⟨b, off + 3, none⟩ (.slice (some ⟨g3, 0, none⟩) (x.keys.length - 1) d3)).cell? ⟨b, o, none⟩ = (w2.setCell ⟨b, off + 4, none⟩ (.slice (some ⟨g, 0, none⟩) (x.kids.length - 1) cap)).cell? ⟨b, o, none⟩ := fun o ho =>
      (World.cell?_setCell_other _ _ _ _ (by intro e; injection e with _ e _; exact ho e.symm)).trans (World.cell?_of_block (a := ⟨b, o, none⟩) HWB3.out)
    have hkeys' : (x.dropKid i).keys = x.keys.take i ++ x.keys.drop (i + 1) := by
      show (if x.kind = 3 then x.keys else x.keys.take i ++ x.keys.drop (i + 1)) = _
      rw [if_neg HK.out]
    have hklen : (x.keys.take i ++ x.keys.drop (i + 1)).length = x.keys.length - 1 := by have := HKE.out; simp; omega
    have hup := (((UpdBlk.refl off hcurb).same hwb).setCell (o := off + 4) (by omega) (by omega) (.slice (some ⟨g, 0, none⟩) (x.kids.length - 1) cap))
    refine unset_fin (v3 := .slice (some ⟨g3, 0, none⟩) x.keys.length d3) (v3' := .slice (some ⟨g3, 0, none⟩) (x.keys.length - 1) d3) ⟨(c3' _ (by omega)).trans ((c2' _ (by omega)).trans p0), (c3' _ (by omega)).trans ((c2' _ (by omega)).trans p1), (c3' _ (by omega)).trans ((c2' _ (by omega)).trans p2), World.cell?_setCell_same _ _ _ r3, (c3' _ (by omega)).trans (World.cell?_setCell_same _ _ _ p4)⟩
      ((hup.same HWB3.out).setCell (by omega) (by omega) _)
      (by rw [hkeys', hklen]; exact ownsRow_same HO3.out fun k hk => Below.heap_setCell w3 _ _ k (by
            have : k = g3 := by simpa [blk, Value.ownBlock] using hk
            rw [this]; exact hg3b)) rfl
      (ownsRow_same HO2.out fun k hk => by
        have hkg : k = g := by simpa [blk, Value.ownBlock] using hk
        subst hkg
        exact (Below.heap_setCell w3 _ _ k (fun h => hbg h.symm)).trans ((HGR3.out.block k (by omega) (by simpa using fun h => hg3g h.symm)).trans (Below.heap_setCell w2 _ _ k (fun h => hbg h.symm))))
      HKD.out (fun k hk => hfar k (lF k hk).2 (fun h => hnn.2.1.2.2 g (by simp) k hk h.symm) (fun h => hnn.2.2 g3 (by simp) k (.inr hk) h.symm) (fun h => hb (by rw [← h]; simp [hk]))) rfl hn hb ?_ hik
    exact ((((Turned.of_below HB1.out _ b).grown HGR2.out (fun j hj => .inl (by injection hj with hj; simp [← hj]))).setCell (p := ⟨b, off + 4, none⟩) (.inr (.inl rfl)) _).grown HGR3.out (fun j hj => .inl (by injection hj with hj; simp [← hj]))).setCell (p := ⟨b, off + 3, none⟩) (.inr (.inl rfl)) _
theorem unset_none {x : D} {u0 u1 u2 u3 u4 : Value} {s : ByteArray} {w : World} {base b off : Nat} {G : List Nat} (hf : x.Fit) (hs : Short s) (hg : Glob w) (hc : Cells5 w b off u0 u1 u2 u3 u4) (hx : OwnIn w base x u0 u1 u2 u3 u4 G) (hst : findI x s < 0) :
    Calls Tryz.prog 62 #[.pointer (some ⟨b, off, none⟩), .string s] w fun e w' => e = .returned (.bool false) ∧ Below w.heap.size w w' := by
  have HX := Lib.hid hx; have HF := Lib.hid hf; have HS := Lib.hid hs; have HG := Lib.hid hg
  obtain ⟨X3, d3, X4, d4, rfl, rfl, rfl, rfl, rfl⟩ := hx.doc.forms
  obtain ⟨p0, p1, p2, p3, p4⟩ := hc
  clear hx hf hs hg
  go_enter Tryz.func62, Tryz.ntmps62
  go_wp2_with fail
  refine (find_any (B := w.heap.size) HF.out HS.out HG.out (Nat.le_refl _) HX.out.doc).mono ?_
  rintro e w1 ⟨rfl, hb1⟩
  go_wp2_with fail
  go_ret
  exact ⟨rfl, hb1⟩
end Go.Proofs.YtlemlgllkcgigaaGreatDoor
namespace Go.Proofs.YtlemlgllkcgigaaGreatDoor
open Go.RowKit

theorem whole_turned {w w' : World} {base box b off : Nat} {d x x' : D} {is : List Nat} {v0 v1 v2 v3 v4 u0 u1 u2 u3 u4 : Value} {F G FY : List Nat} (hf : Focus w base d is x box 0 v0 v1 v2 v3 v4 F b off u0 u1 u2 u3 u4 G) (hset : SetOk w base x' b off G FY w')
    (hFY : ∀ k ∈ FY, k ∉ F ∧ k ≠ box) (hF : ∀ k ∈ F, k < w.heap.size) (hbox : box < w.heap.size) (hbF : box ∉ F) :
    ∃ (z0 z1 z2 z3 z4 : Value) (F' : List Nat), Cells5 w' box 0 z0 z1 z2 z3 z4 ∧ OwnIn w' base (D.repl d is x') z0 z1 z2 z3 z4 F' ∧ F'.Nodup ∧ (∀ k ∈ F', k ∈ F ∨ k ∈ FY ∨ w.heap.size ≤ k) ∧ Turned w w' F box := by
  obtain ⟨y0, y1, y2, y3, y4, G', h1, h2, h3, h4, h5, h6, h7⟩ := hset
  have hbb : b = box ∨ b ∈ F := by
    rcases hf.place with ⟨_, h, _⟩ | h
    · exact .inl h
    · exact .inr h
  obtain ⟨z0, z1, z2, z3, z4, F', k1, k2, k3, _, k5⟩ := hf.back w' x' y0 y1 y2 y3 y4 G' (fun k hk hkG hkb => h7.block k (hF k hk) hkG hkb) (fun h => h7.block box hbox (fun hm => hbF (hf.sub box hm)) h) h1 h2 h3 h4 (fun k hk => by
    rcases h6 k hk with h | h | h
    · exact .inl h
    · exact .inr (hFY k h)
    · exact .inr ⟨fun hm => by have := hF k hm; omega, by omega⟩) h5
  refine ⟨z0, z1, z2, z3, z4, F', k1, k2, k3, fun k hk => ?_, ⟨h7.os, h7.tape, h7.output, h7.size, fun k hk hkF hkb => h7.block k hk (fun hm => hkF (hf.sub k hm)) (fun h => ?_)⟩⟩
  · rcases k5 k hk with h | h
    · exact .inl h
    · rcases h6 k h with h | h | h
      · exact .inl (hf.sub k h)
      · exact .inr (.inl h)
      · exact .inr (.inr h)
  · subst h
    rcases hbb with h | h
    · exact hkb h
    · exact hkF h

theorem partB_sub : ∀ (is : List Nat) (d x : D), partB d = true → D.subAt d is = some x → partB x = true
  | [], d, x, h, hs => by simp only [D.subAt, Option.some.injEq] at hs; rw [← hs]; exact h
  | i :: is, d, x, h, hs => by
    simp only [D.subAt] at hs
    cases hk : d.kids[i]? with
    | none => rw [hk] at hs; cases hs
    | some k =>
      rw [hk] at hs
      obtain ⟨hi, rfl⟩ := List.getElem?_eq_some_iff.1 hk
      rw [partB_eq, Bool.and_eq_true] at h
      exact partB_sub is _ x (partsB_at h.2 hi) hs
theorem sound_keys {x : D} (h : soundB x = true) (hk : x.kind ≠ 3) : x.keys.length = x.kids.length := by
  simp only [soundB, Bool.and_eq_true] at h
  have h2 := h.2.2
  simp only [formB] at h2
  by_cases h1 : x.kind = 1
  · rw [if_pos h1, keyedB, Bool.and_eq_true, decide_eq_true_eq] at h2; exact h2.1
  · rw [if_neg h1] at h2
    by_cases h3 : x.kind = 2
    · rw [if_pos h3, keyedB, Bool.and_eq_true, decide_eq_true_eq] at h2; exact h2.1
    · rw [if_neg h3, if_neg hk] at h2
      split at h2
      · simp only [Bool.and_eq_true, decide_eq_true_eq] at h2; omega
      · cases h2
theorem right_part {d : D} (h : rightB d = true) : partB d = true := (okB_iff.1 h).2.2

/-- What Drop tells. -/
def dropV (d : D) (ps : List ByteArray) : D × Int :=
  if rightB d = false ∨ ps = [] then (D.zero, 1)
  else match D.locate d ps.dropLast with
    | none => (D.zero, 3)
    | some is => match D.subAt d is with
      | none => (D.zero, 3)
      | some x => match stepD x (ps.getLastD ByteArray.empty) with
        | none => (D.zero, 3)
        | some i => (D.repl d is (x.dropKid i), 0)

set_option maxHeartbeats 4000000 in
set_option maxRecDepth 100000 in
theorem drop_v {d : D} {v pv : Value} {ps : List ByteArray} {w : World} {B : Nat} (hf : d.Fit) (hps : ps.length ≤ 10000) (hs : ∀ s ∈ ps, Short s) (hg : Glob w) (hB : B ≤ w.heap.size) (hd : DocV w B d v) (hp : Strs w B pv ps) :
    Calls Tryz.prog 32 #[v, pv] w (MadeDoc2 w.heap.size w (dropV d ps).1 (.int .i64 (dropV d ps).2)) := by
  obtain ⟨v0, v1, v2, v3, v4, rfl, hd⟩ := hd
  have HD := Lib.hid hd; have HP := Lib.hid hp; have HS := Lib.hid hs; have HG := Lib.hid hg; have HF := Lib.hid hf
  obtain ⟨A3, c3, A4, c4, rfl, rfl, rfl, rfl, rfl⟩ := hd.forms
  obtain ⟨A, c, rfl, hpc, hpcells⟩ := hp
  have HPC := Lib.hid hpcells
  clear hd hs hg hf hpcells
  go_enter Tryz.func32, Tryz.ntmps32
  go_wp2_with fail
  have keep : ∀ o o' : Obj, ∀ p : Addr, p.block < B → ((w.alloc o).alloc o').cell? p = w.cell? p := fun o o' p hp => (World.cell?_alloc_lt (w.alloc _) _ p (by simp; omega)).trans (World.cell?_alloc_lt w _ p (by omega))
  have hx1 := (Box5.new w (.int .i64 d.kind) (.int .i64 d.num) (.string d.str) (.slice A3 d.keys.length c3) (.slice A4 d.kids.length c4)).alloc (.cells #[.int .i64 0, .int .i64 0, .string ⟨#[]⟩, .slice none 0 0, .slice none 0 0] 29)
  have hr1 := Box5.new' (w := w.alloc (.cells #[.int .i64 d.kind, .int .i64 d.num, .string d.str, .slice A3 d.keys.length c3, .slice A4 d.kids.length c4] 29)) (World.size_alloc _ _) (.int .i64 0) (.int .i64 0) (.string ⟨#[]⟩) (.slice none 0 0) (.slice none 0 0)
  refine (right_v (B := B) (d := d) HF.out (by simp; omega) ⟨_, _, _, _, _, rfl, HD.out.keep (Nat.le_refl _) (keep _ _)⟩).mono ?_
  rintro e w1 ⟨rfl, hb1⟩
  simp only [World.size_alloc] at hb1
  have hz1 := hb1.size
  simp only [World.size_alloc] at hz1
  have hx2 := hx1.same (hb1.block w.heap.size (by omega))
  have hr2 := hr1.same (hb1.block (w.heap.size + 1) (by omega))
  have hbw : Below w.heap.size w w1 := (((Below.refl _ _).alloc (Nat.le_refl _) _).alloc (by simp) _).trans (hb1.mono (by omega))
  have HR2 := Lib.hid hr2; have HBW := Lib.hid hbw
  cases hr : rightB d with
  | false =>
    have E : Hid (dropV d ps = (D.zero, 1)) := by show dropV d ps = _; unfold dropV; rw [if_pos (.inl hr)]
    obtain ⟨r0, r1, r2, r3, r4⟩ := hr2.cells
    have r5 := hr2.frozen
    clear hx1 hr1 keep hr2 hx2 hbw hb1
    go_wp2_with fail
    have hfin := ((((HR2.out.set0 (.int .i64 0)).set1 (.int .i64 0)).set2 (.string ⟨#[]⟩)).set3 (.slice none 0 0)).set4 (.slice none 0 0)
    refine ret_cell5_2 (u := .int .i64 1) rfl rfl rfl hfin.load rfl ?_
    rw [E.out]
    exact ⟨_, _, _, _, _, [], rfl, OwnIn.zero _ _, List.nodup_nil, ((((HBW.out.setCell (by show w.heap.size ≤ w.heap.size + 1; omega) _).setCell (by show w.heap.size ≤ w.heap.size + 1; omega) _).setCell (by show w.heap.size ≤ w.heap.size + 1; omega) _).setCell (by show w.heap.size ≤ w.heap.size + 1; omega) _).setCell (by show w.heap.size ≤ w.heap.size + 1; omega) _⟩
  | true =>
    have HRT := Lib.hid hr
    rcases Nat.eq_zero_or_pos ps.length with h0 | h0
    · have E : Hid (dropV d ps = (D.zero, 1)) := by show dropV d ps = _; unfold dropV; rw [if_pos (.inr (List.eq_nil_of_length_eq_zero h0))]
      have hl0 : ((ps.length : Int) == 0) = true := by simp [h0]
      obtain ⟨r0, r1, r2, r3, r4⟩ := hr2.cells
      have r5 := hr2.frozen
      clear hx1 hr1 keep hr2 hx2 hbw hb1 h0
      go_wp2_with fail
      have hfin := ((((HR2.out.set0 (.int .i64 0)).set1 (.int .i64 0)).set2 (.string ⟨#[]⟩)).set3 (.slice none 0 0)).set4 (.slice none 0 0)
      refine ret_cell5_2 (u := .int .i64 1) rfl rfl rfl hfin.load rfl ?_
      rw [E.out]
      exact ⟨_, _, _, _, _, [], rfl, OwnIn.zero _ _, List.nodup_nil, ((((HBW.out.setCell (by show w.heap.size ≤ w.heap.size + 1; omega) _).setCell (by show w.heap.size ≤ w.heap.size + 1; omega) _).setCell (by show w.heap.size ≤ w.heap.size + 1; omega) _).setCell (by show w.heap.size ≤ w.heap.size + 1; omega) _).setCell (by show w.heap.size ≤ w.heap.size + 1; omega) _⟩
    · have hl0 : ((ps.length : Int) == 0) = false := beq_eq_false_iff_ne.2 (by omega)
      obtain ⟨pb, po, rfl, hpb, hpcells⟩ := HPC.out h0
      have HPCE := Lib.hid hpcells
      obtain ⟨q0, q1, q2, q3, q4⟩ := hx2.cells
      have hd1 : DocIn w1 B d (.int .i64 d.kind) (.int .i64 d.num) (.string d.str) (.slice A3 d.keys.length c3) (.slice A4 d.kids.length c4) := HD.out.keep (Nat.le_refl _) fun p hp => hbw.cell (p := p) (by omega)
      have HD1 := Lib.hid hd1
      have HB1 := Lib.hid hb1
      clear hx1 hr1 keep hr2 hx2 hbw hb1 hpcells hd1
      go_wp2_with fail
      refine (copy_v (B := B) (d := d) HF.out (by omega) ⟨_, _, _, _, _, rfl, HD1.out⟩).mono ?_
      rintro e w2 ⟨y0, y1, y2, y3, y4, F, rfl, hown, hnd, hb2⟩
      obtain ⟨Y3, f3, Y4, f4, rfl, rfl, rfl, rfl, rfl⟩ := hown.doc.forms
      have hz2 := hb2.size
      have hbw2 : Below w.heap.size w w2 := HBW.out.trans (hb2.mono (by omega))
      have HO := Lib.hid hown; have HN := Lib.hid hnd; have HB2 := Lib.hid hb2; have HBW2 := Lib.hid hbw2
      have hgp : w2.cell? ⟨pb, po + (ps.length - 1), none⟩ = some (.string (ps[ps.length - 1]'(by omega))) := (hbw2.cell (p := ⟨pb, po + (ps.length - 1), none⟩) (by show pb < _; omega)).trans (HPCE.out (ps.length - 1) (by omega))
      have hpw2 : pb < w2.heap.size := by omega
      have hlc : ps.length ≤ c := hpc
      have ib0 : (0 : Int) ≤ (ps.length : Int) - 1 := by omega
      have ib1 : (ps.length : Int) - 1 ≤ (c : Int) := by omega
      clear hown hnd hb2 hbw2 q0 q1 q2 q3 q4
      go_wp2_with fail
      have hboxn := Box5.new w2 (.int .i64 d.kind) (.int .i64 d.num) (.string d.str) (.slice Y3 d.keys.length f3) (.slice Y4 d.kids.length f4)
      have hbw3 : Below w.heap.size w (w2.alloc (.cells #[.int .i64 d.kind, .int .i64 d.num, .string d.str, .slice Y3 d.keys.length f3, .slice Y4 d.kids.length f4] 29)) := HBW2.out.alloc (by omega) _
      have hstr : Strs (w2.alloc (.cells #[.int .i64 d.kind, .int .i64 d.num, .string d.str, .slice Y3 d.keys.length f3, .slice Y4 d.kids.length f4] 29)) w2.heap.size (.slice (some ⟨pb, po, none⟩) (ps.length - 1) c) ps.dropLast :=
        ⟨some ⟨pb, po, none⟩, c, by rw [List.length_dropLast], by rw [List.length_dropLast]; omega, fun _ => ⟨pb, po, rfl, hpw2, fun i hi => by
          rw [List.length_dropLast] at hi
          rw [List.getElem_dropLast]
          exact (hbw3.cell (p := ⟨pb, po + i, none⟩) (by show pb < _; omega)).trans (HPCE.out i (by omega))⟩⟩
      refine (at_any (B := w2.heap.size) (d := d) (ps := ps.dropLast) HF.out (by rw [List.length_dropLast]; omega) (fun s hs => HS.out s (List.dropLast_subset _ hs)) (HG.out.below hbw3 HG.out.size) (by simp) ⟨hboxn.cells.1, hboxn.cells.2.1, hboxn.cells.2.2.1, hboxn.cells.2.2.2.1, hboxn.cells.2.2.2.2⟩
        (HO.out.doc.keep (Nat.le_refl _) fun p hp => World.cell?_alloc_lt w2 _ p hp) hstr).mono ?_
      rintro e w3 ⟨ht, hb3⟩
      simp only [World.size_alloc] at hb3
      have hz3 := hb3.size
      simp only [World.size_alloc] at hz3
      have hbox3 := hboxn.same (hb3.block w2.heap.size (by omega))
      have hr3 := (HR2.out.same (HB2.out.block (w.heap.size + 1) (by omega))).same (w' := w3) ((hb3.block (w.heap.size + 1) (by omega)).trans (Below.heap_alloc w2 _ (w.heap.size + 1) (by omega)))
      have hbw4 : Below w.heap.size w w3 := hbw3.trans (hb3.mono (by omega))
      have hgp3 : w3.cell? ⟨pb, po + (ps.length - 1), none⟩ = some (.string (ps[ps.length - 1]'(by omega))) := (hbw4.cell (p := ⟨pb, po + (ps.length - 1), none⟩) (by show pb < _; omega)).trans (HPCE.out (ps.length - 1) (by omega))
      have hdl : ps.getLastD ByteArray.empty = ps[ps.length - 1]'(by omega) := by
        rw [List.getLastD_eq_getLast?, List.getLast?_eq_getElem?, List.getElem?_eq_getElem (by omega)]; rfl
      have hne : ¬ (rightB d = false ∨ ps = []) := by
        rintro (h | h)
        · rw [HRT.out] at h; cases h
        · rw [h] at h0; simp at h0
      have HR3 := Lib.hid hr3; have HBW4 := Lib.hid hbw4; have HBOX3 := Lib.hid hbox3; have HDL := Lib.hid hdl; have HNE := Lib.hid hne
      clear hboxn hbw3 hstr hgp hdl hne hbw4
      rcases ht with ⟨hloc, rfl⟩ | ⟨is, b', off', x, u0, u1, u2, u3, u4, hloc, rfl, hlead, hsub, hcx, hdx, hfx⟩
      · have E : Hid (dropV d ps = (D.zero, 3)) := by show dropV d ps = _; unfold dropV; rw [if_neg HNE.out, hloc]
        obtain ⟨r0, r1, r2, r3, r4⟩ := hr3.cells
        have r5 := hr3.frozen
        clear hloc hr3 hbox3 hb3
        go_wp2_with fail
        have hfin := ((((HR3.out.set0 (.int .i64 0)).set1 (.int .i64 0)).set2 (.string ⟨#[]⟩)).set3 (.slice none 0 0)).set4 (.slice none 0 0)
        refine ret_cell5_2 (u := .int .i64 3) rfl rfl rfl hfin.load rfl ?_
        rw [E.out]
        exact ⟨_, _, _, _, _, [], rfl, OwnIn.zero _ _, List.nodup_nil, ((((HBW4.out.setCell (by show w.heap.size ≤ w.heap.size + 1; omega) _).setCell (by show w.heap.size ≤ w.heap.size + 1; omega) _).setCell (by show w.heap.size ≤ w.heap.size + 1; omega) _).setCell (by show w.heap.size ≤ w.heap.size + 1; omega) _).setCell (by show w.heap.size ≤ w.heap.size + 1; omega) _⟩
      · have hF := HO.out.lt
        have hown3 : OwnIn w3 w1.heap.size d (.int .i64 d.kind) (.int .i64 d.num) (.string d.str) (.slice Y3 d.keys.length f3) (.slice Y4 d.kids.length f4) F := HO.out.same (Nat.le_refl _) fun k hk => (hb3.block k (by have := (hF k hk).2; omega)).trans (Below.heap_alloc w2 _ k (hF k hk).2)
        have hboxF : w2.heap.size ∉ F := fun h => by have := (hF _ h).2; omega
        have hlead3 : Leads w3 w2.heap.size 0 is b' off' := hlead.keep fun p hp => hb3.cell (by simpa using hp)
        obtain ⟨s0, s1, s2, s3, s4, G, hfo⟩ := focus is d x w2.heap.size 0 _ _ _ _ _ F b' off' ⟨_, hbox3⟩ ⟨hbox3.cells.1, hbox3.cells.2.1, hbox3.cells.2.2.1, hbox3.cells.2.2.2.1, hbox3.cells.2.2.2.2⟩ hown3 HN.out hboxF hsub hlead3
        have HFO := Lib.hid hfo
        have hxs : soundB x = true := by
          have := partB_sub is d x (right_part HRT.out) hsub
          rw [partB_eq, Bool.and_eq_true] at this
          exact this.1
        have hw4g : Glob w3 := HG.out.below HBW4.out HG.out.size
        have HW4G := Lib.hid hw4g; have HXS := Lib.hid hxs; have HFX := Lib.hid hfx; have HLOC := Lib.hid hloc; have HSUB := Lib.hid hsub
        have hlast : Short (ps[ps.length - 1]'(by omega)) := HS.out _ (List.getElem_mem _)
        have HLAST := Lib.hid hlast
        clear hw4g hxs hfx hlead hlead3 hown3 hcx hdx hfo hb3 hloc hsub hlast
        go_wp2_with fail
        cases hst : stepD x (ps[ps.length - 1]'(by omega)) with
        | none =>
          have hneg : findI x (ps[ps.length - 1]'(by omega)) < 0 := by
            by_cases h : 0 ≤ findI x (ps[ps.length - 1]'(by omega))
            · rw [stepD_some h] at hst; cases hst
            · omega
          have E : Hid (dropV d ps = (D.zero, 3)) := by show dropV d ps = _; unfold dropV; rw [if_neg HNE.out, HLOC.out]; simp only; rw [HSUB.out]; simp only; rw [HDL.out, hst]
          clear hst
          refine (unset_none HFX.out HLAST.out HW4G.out HFO.out.cells HFO.out.own hneg).mono ?_
          rintro e w4 ⟨rfl, hb4⟩
          have hr4 := HR3.out.same (w' := w4) (hb4.block (w.heap.size + 1) (by omega))
          have hb5 : Below w.heap.size w w4 := HBW4.out.trans (hb4.mono (by omega))
          obtain ⟨r0, r1, r2, r3, r4⟩ := hr4.cells
          have r5 := hr4.frozen
          have HR4 := Lib.hid hr4; have HB5 := Lib.hid hb5
          clear hr4 hr3 hbox3 hb4 hb5
          go_wp2_with fail
          have hfin := ((((HR4.out.set0 (.int .i64 0)).set1 (.int .i64 0)).set2 (.string ⟨#[]⟩)).set3 (.slice none 0 0)).set4 (.slice none 0 0)
          refine ret_cell5_2 (u := .int .i64 3) rfl rfl rfl hfin.load rfl ?_
          rw [E.out]
          exact ⟨_, _, _, _, _, [], rfl, OwnIn.zero _ _, List.nodup_nil, ((((HB5.out.setCell (by show w.heap.size ≤ w.heap.size + 1; omega) _).setCell (by show w.heap.size ≤ w.heap.size + 1; omega) _).setCell (by show w.heap.size ≤ w.heap.size + 1; omega) _).setCell (by show w.heap.size ≤ w.heap.size + 1; omega) _).setCell (by show w.heap.size ≤ w.heap.size + 1; omega) _⟩
        | some i =>
          have E : Hid (dropV d ps = (D.repl d is (x.dropKid i), 0)) := by show dropV d ps = _; unfold dropV; rw [if_neg HNE.out, HLOC.out]; simp only; rw [HSUB.out]; simp only; rw [HDL.out, hst]
          refine (unset_there HFX.out HLAST.out HW4G.out HFO.out.cells HFO.out.own HFO.out.nodup HFO.out.out HFO.out.blkc hst (sound_keys HXS.out)).mono ?_
          rintro e w4 ⟨rfl, hset⟩
          obtain ⟨z0, z1, z2, z3, z4, F', zc, zo, zn, zf, zt⟩ := whole_turned HFO.out hset (fun k hk => by simp at hk) (fun k hk => by have := (hF k hk).2; omega) (by omega) hboxF
          have hz4 := zt.size
          have hr4 := HR3.out.same (w' := w4) (zt.block (w.heap.size + 1) (by omega) (fun h => by have := (hF _ h).1; omega) (by omega))
          have hb5 : Below w.heap.size w w4 := HBW4.out.trans (zt.below (fun k hk => by have := (hF k hk).1; omega) (by omega) (by omega))
          obtain ⟨Z3, g3, Z4, g4, rfl, rfl, rfl, rfl, rfl⟩ := zo.doc.forms
          obtain ⟨t0, t1, t2, t3, t4⟩ := zc
          obtain ⟨r0, r1, r2, r3, r4⟩ := hr4.cells
          have r5 := hr4.frozen
          have HR4 := Lib.hid hr4; have HB5 := Lib.hid hb5; have HZO := Lib.hid zo; have HZF := Lib.hid zf; have HZN := Lib.hid zn
          clear hr4 hr3 hbox3 hb5 zo zf zn zt hset hst
          go_wp2_with fail
          have hfin := ((((HR4.out.set0 (.int .i64 (D.repl d is (x.dropKid i)).kind)).set1 (.int .i64 (D.repl d is (x.dropKid i)).num)).set2 (.string (D.repl d is (x.dropKid i)).str)).set3 (.slice Z3 (D.repl d is (x.dropKid i)).keys.length g3)).set4 (.slice Z4 (D.repl d is (x.dropKid i)).kids.length g4)
          refine ret_cell5_2 (u := .int .i64 0) rfl rfl rfl hfin.load rfl ?_
          rw [E.out]
          refine ⟨_, _, _, _, _, F', rfl, HZO.out.same (by omega) fun k hk => ?_, HZN.out, ((((HB5.out.setCell (by show w.heap.size ≤ w.heap.size + 1; omega) _).setCell (by show w.heap.size ≤ w.heap.size + 1; omega) _).setCell (by show w.heap.size ≤ w.heap.size + 1; omega) _).setCell (by show w.heap.size ≤ w.heap.size + 1; omega) _).setCell (by show w.heap.size ≤ w.heap.size + 1; omega) _⟩
          have hk1 : k ≠ w.heap.size + 1 := by
            rcases HZF.out k hk with h | h | h
            · have := (hF k h).1; omega
            · simp at h
            · omega
          rw [Below.heap_setCell _ _ _ k hk1, Below.heap_setCell _ _ _ k hk1, Below.heap_setCell _ _ _ k hk1, Below.heap_setCell _ _ _ k hk1, Below.heap_setCell _ _ _ k hk1]
end Go.Proofs.YtlemlgllkcgigaaGreatDoor
namespace Go.Proofs.YtlemlgllkcgigaaGreatDoor
open Go.RowKit Go.ChangeShapes
def laidL : List (String × DataW Unit) := [("math/bits.deBruijn32tab", Rows.laid_math_bits_deBruijn32tab), ("math/bits.deBruijn64tab", Rows.laid_math_bits_deBruijn64tab), ("internal/strconv.uint64pow10", Rows.laid_internal_strconv_uint64pow10), ("strconv.ErrRange", Rows.laid_strconv_ErrRange), ("strconv.ErrSyntax", Rows.laid_strconv_ErrSyntax)]
theorem star (s : String) (h : s = "errors.errorString") : "*" ++ s = "*errors.errorString" := by subst h; decide
theorem rowErr (u : TypeId) (h : Tryz.prog.typeName? 3 u = some "*errors.errorString") : u = 176 :=
  typeName_ptr_named (nm := "errors.errorString") (by rw [star _ rfl]; kernel_rfl) (by kernel_rfl) (by decide) u (by rw [star _ rfl]; exact h)
theorem gBits : Tryz.prog.globalNamed "math/bits.deBruijn64tab" = some 5 := by kernel_rfl
theorem glob_of_laid {W : World} (h : laidMetH Tryz.prog laidL W) : Glob W := by
  rw [MakeChecks.laidMetH_plain _ _ _ (by kernel_rfl)] at h
  obtain ⟨a1, s1, hr, _⟩ := laid_sentinel (P := Tryz.prog) (n := "strconv.ErrRange") (h.tail.tail.tail) gRng (by kernel_rfl) Tryz.underlying123 rowErr Tryz.underlying176 Tryz.underlying178 rfl rfl Tryz.underlying9 (by kernel_rfl) (by kernel_rfl)
  obtain ⟨a2, s2, hs, _⟩ := laid_sentinel (P := Tryz.prog) (n := "strconv.ErrSyntax") (h.tail.tail.tail.tail) gSyn (by kernel_rfl) Tryz.underlying123 rowErr Tryz.underlying176 Tryz.underlying178 rfl rfl Tryz.underlying9 (by kernel_rfl) (by kernel_rfl)
  refine ⟨⟨_, _, hs⟩, ⟨_, _, hr⟩, ?_, ?_⟩
  · exact Lib.tabIs_of_head (n := 20) (t := 155) (e := 139) gTab (by kernel_rfl) Tryz.underlying155 Tryz.underlying139 (by kernel_rfl) (by kernel_rfl) h.tail.tail
  · obtain ⟨ps, ⟨g', t', cs, fuel, p, q, hg', ht', hvar, hd, _, _⟩, _⟩ := h.tail
    obtain rfl := Option.some.inj (gBits.symm.trans hg')
    rcases Nat.lt_or_ge 5 W.heap.size with h' | h'
    · exact h'
    · exfalso
      have e := hvar
      simp only [World.var?, gBits, Option.bind_some, Array.getElem?_eq_none h'] at e
      cases e
end Go.Proofs.YtlemlgllkcgigaaGreatDoor
