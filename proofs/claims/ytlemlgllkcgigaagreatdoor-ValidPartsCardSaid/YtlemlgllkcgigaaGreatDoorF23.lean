/-
  
  
  
  What is changed at a place within a document of the call's own: the whole is the document with that part changed.
  What the row's list gives: 'Glob'.
-/
import Derived.Test.YtlemlgllkcgigaaGreatDoorF01
import Derived.Test.YtlemlgllkcgigaaGreatDoorF12
import Derived.Lib.AppendIntMem
import Derived.Test.YtlemlgllkcgigaaGreatDoorRows
import Derived.Stop.LaidErr
import Derived.MakeChecks
import Derived.Lib.LaidTab
namespace Go.Proofs.YtlemlgllkcgigaaGreatDoor
open Go.RowKit

/-- The library's variables that a walk reads: what they hold. -/
structure Glob (w : World) : Prop where
  syn : ∃ (tp : TypeId) (p : Value), w.var? Tryz.prog "strconv.ErrSyntax" = some #[.iface tp p]
  rng : ∃ (tp : TypeId) (p : Value), w.var? Tryz.prog "strconv.ErrRange" = some #[.iface tp p]
  tab : Lib.TabIs Tryz.prog w "internal/strconv.uint64pow10" .u64 Lib.pow10Tab
  size : 5 < w.heap.size
theorem var_same {P : Program} {w w' : World} {n : String} {g : Nat} (hg : P.globalNamed n = some g) (hs : w'.heap[g]? = w.heap[g]?) : w'.var? P n = w.var? P n := by
  simp [World.var?, hg, hs]
theorem gSyn : Tryz.prog.globalNamed "strconv.ErrSyntax" = some 2 := by kernel_rfl
theorem gRng : Tryz.prog.globalNamed "strconv.ErrRange" = some 3 := by kernel_rfl
theorem gTab : Tryz.prog.globalNamed "internal/strconv.uint64pow10" = some 1 := by kernel_rfl
theorem Glob.below {w w' : World} {B : Nat} (h : Glob w) (hb : Below B w w') (hB : 5 < B) : Glob w' where
  syn := by obtain ⟨tp, p, e⟩ := h.syn; exact ⟨tp, p, (var_same gSyn (hb.block _ (by omega))).trans e⟩
  rng := by obtain ⟨tp, p, e⟩ := h.rng; exact ⟨tp, p, (var_same gRng (hb.block _ (by omega))).trans e⟩
  tab := by have := h.tab; unfold Lib.TabIs at *; rw [var_same gTab (hb.block _ (by omega))]; exact this
  size := by have := h.size; have := hb.size; omega
theorem Glob.alloc {w : World} (h : Glob w) (o : Obj) : Glob (w.alloc o) := h.below ((Below.refl w.heap.size w).alloc (Nat.le_refl _) o) h.size

def Short (s : ByteArray) : Prop := s.size ≤ 140737488355328
theorem Short.of {s : ByteArray} (h : s.size ≤ 10000) : Short s := by unfold Short; omega
def placeI (s : ByteArray) : Int :=
  match Lib.atoiAll s.data.toList with
  | .ok n => if n < 0 then -1 else if Lib.itoa n = s.data.toList then n else -1
  | _ => -1
theorem below_bytes (w : World) (e : TypeId) (s : ByteArray) : Below w.heap.size w (Lib.bytesWorld w e s) := ⟨rfl, rfl, rfl, by rw [Lib.bytesWorld_size]; omega, fun j hj => Lib.bytesWorld_at_old w e s j hj⟩
theorem atoi_ok {s : ByteArray} {n : Int} (hs : Short s) (h : Lib.atoiAll s.data.toList = .ok n) (w : World) :
    Calls Tryz.prog 135 #[.string s] w fun e w' => e = .returned (.tuple #[.int .i64 n, .nilIface]) ∧ Below w.heap.size w w' := by
  refine (Tryz.strconv_Atoi_ok s (by unfold Short at hs; omega) n h w).mono ?_
  rintro e w' ⟨he, hw⟩
  refine ⟨he, ?_⟩
  rcases hw with rfl | ⟨t, rfl⟩
  · exact Below.refl _ _
  · exact below_bytes _ _ _
theorem atoi_bad {s : ByteArray} (hs : Short s) (h : ∀ n, Lib.atoiAll s.data.toList ≠ .ok n) (w : World) (hg : Glob w) :
    Calls Tryz.prog 135 #[.string s] w fun e w' => (∃ (n : Int) (N : Nat), e = .returned (.tuple #[.int .i64 n, .iface 163 (.pointer (some ⟨N, 0, none⟩))])) ∧ Below w.heap.size w w' := by
  unfold Short at hs
  obtain ⟨tp, p, e1⟩ := hg.syn
  obtain ⟨tp', p', e2⟩ := hg.rng
  cases hh : Lib.atoiAll s.data.toList
  case ok n => exact absurd hh (h n)
  case range => exact (Tryz.strconv_Atoi_range_var s (by omega) hh tp' p' w e2).mono fun _ _ ⟨N, he, _, _, hb⟩ => ⟨⟨_, N, he⟩, hb⟩
  exact (Tryz.strconv_Atoi_syntax_var s (by omega) hh tp p w e1).mono fun _ _ ⟨N, he, _, _, hb⟩ => ⟨⟨_, N, he⟩, hb⟩
theorem atoi_range {l : List UInt8} {n : Int} (h : Lib.atoiAll l = .ok n) : -9223372036854775808 ≤ n ∧ n ≤ 9223372036854775807 := by
  cases l with
  | nil => cases h
  | cons c r =>
    simp only [Lib.atoiAll] at h
    generalize Lib.parseMag _ = q at h
    cases q
    case ok u =>
      simp only at h
      by_cases h1 : ¬ c.toNat = 45 ∧ 9223372036854775808 ≤ u
      · rw [if_pos h1] at h; cases h
      · rw [if_neg h1] at h
        by_cases h2 : c.toNat = 45 ∧ 9223372036854775808 < u
        · rw [if_pos h2] at h; cases h
        · rw [if_neg h2] at h
          injection h with h
          subst h
          by_cases hn : c.toNat = 45
          · rw [if_pos hn]; have : ¬ 9223372036854775808 < u := fun hh => h2 ⟨hn, hh⟩; omega
          · rw [if_neg hn]; have : ¬ 9223372036854775808 ≤ u := fun hh => h1 ⟨hn, hh⟩; omega
    all_goals cases h
theorem itoa_any {n : Int} (h0 : -9223372036854775808 ≤ n) (h1 : n ≤ 9223372036854775807) (w : World) (hg : Glob w) :
    Calls Tryz.prog 56 #[.int .i64 n] w fun e w' => (∃ t : ByteArray, e = .returned (.string t) ∧ t.data.toList = Lib.itoa n) ∧ Below w.heap.size w w' :=
  (Tryz.strconv_Itoa n h0 h1 w hg.tab).mono fun _ _ ⟨he, k, os, hw⟩ => ⟨⟨_, he, by simp⟩, by rw [hw]; exact Lib.below_grow _ _ (Nat.le_refl _) _ _⟩

set_option maxHeartbeats 1000000 in
theorem place_any (s : ByteArray) (w : World) (hs : Short s) (hg : Glob w) : Calls Tryz.prog 99 #[.string s] w fun e w' => e = .returned (.int .i64 (placeI s)) ∧ Below w.heap.size w w' := by
  have HG := Lib.hid hg; have HS := Lib.hid hs
  clear hg hs
  by_cases hok : ∃ n, Lib.atoiAll s.data.toList = .ok n
  · obtain ⟨n, hn⟩ := hok
    have HR := Lib.hid (atoi_range hn)
    have HN := Lib.hid hn; clear hn
    by_cases hneg : n < 0
    · have E : Hid (placeI s = -1) := by show placeI s = -1; unfold placeI; rw [HN.out]; simp only; rw [if_pos (by omega)]
      go_enter Tryz.func99, Tryz.ntmps99
      go_wp2_with fail
      refine (atoi_ok HS.out HN.out _).mono ?_
      rintro e w1 ⟨rfl, hb1⟩
      go_wp2_with fail
      go_ret
      exact ⟨ret_int E.out.symm, hb1⟩
    · go_enter Tryz.func99, Tryz.ntmps99
      go_wp2_with fail
      refine (atoi_ok HS.out HN.out _).mono ?_
      rintro e w1 ⟨rfl, hb1⟩
      go_wp2_with fail
      refine (itoa_any HR.out.1 HR.out.2 w1 (HG.out.below hb1 HG.out.size)).mono ?_
      rintro e w2 ⟨⟨t, rfl, ht⟩, hb2⟩
      have HT := Lib.hid ht; clear ht
      have hb3 := hb1.trans (hb2.mono hb1.size)
      by_cases heq : Lib.itoa n = s.data.toList
      · have E : Hid (placeI s = n) := by show placeI s = n; unfold placeI; rw [HN.out]; simp only; rw [if_neg (by omega), if_pos heq]
        have hts : (t.toList == s.toList) = true := by rw [ByteArray.toList_eq, ByteArray.toList_eq, HT.out, heq, beq_iff_eq]
        clear heq
        go_wp2_with fail
        go_ret
        exact ⟨ret_int E.out.symm, hb3⟩
      · have E : Hid (placeI s = -1) := by show placeI s = -1; unfold placeI; rw [HN.out]; simp only; rw [if_neg (by omega), if_neg heq]
        have hts : (t.toList == s.toList) = false := by rw [ByteArray.toList_eq, ByteArray.toList_eq, HT.out, beq_eq_false_iff_ne]; exact heq
        clear heq
        go_wp2_with fail
        go_ret
        exact ⟨ret_int E.out.symm, hb3⟩
  · have E : Hid (placeI s = -1) := by
      show placeI s = -1; unfold placeI
      cases hh : Lib.atoiAll s.data.toList
      case ok n => exact absurd ⟨n, hh⟩ hok
      all_goals rfl
    have HB := Lib.hid (fun n h => hok ⟨n, h⟩ : ∀ n, Lib.atoiAll s.data.toList ≠ .ok n)
    clear hok
    go_enter Tryz.func99, Tryz.ntmps99
    go_wp2_with fail
    refine (atoi_bad HS.out HB.out _ HG.out).mono ?_
    rintro e w1 ⟨⟨n, N, rfl⟩, hb1⟩
    go_wp2_with fail
    go_ret
    exact ⟨ret_int E.out.symm, hb1⟩

theorem idx_any (xs : List ByteArray) (v : Value) (x : ByteArray) (B : Nat) (w : World) (hv : Strs w B v xs) (hl : xs.length ≤ 10000) :
    Calls Tryz.prog 117 #[v, .string x] w fun e w' => e = .returned (.int .i64 (Lib.idxOfS xs x)) ∧ w' = w := by
  obtain ⟨A, c, rfl, hc1, hc2⟩ := hv
  rcases Nat.eq_zero_or_pos xs.length with h0 | h0
  · obtain rfl : xs = [] := List.eq_nil_of_length_eq_zero h0
    exact Tryz.slices_Index_string_empty A c x w
  · obtain ⟨b, off, rfl, _, hc⟩ := hc2 h0
    have := Tryz.slices_Index_string b off xs.length c xs x w (Nat.le_refl _) (by omega) (fun j hj => by rw [hc j hj]; simp [List.getD, hj])
    rwa [List.take_length] at this
theorem idxFromS_range (x : ByteArray) : ∀ (zs : List ByteArray) (i : Nat), -1 ≤ Lib.idxFromS zs x i ∧ Lib.idxFromS zs x i < (i + zs.length : Nat)
  | [], i => by simp [Lib.idxFromS]; omega
  | z :: zs, i => by
    have := idxFromS_range x zs (i + 1)
    unfold Lib.idxFromS
    split
    · simp; omega
    · simp only [List.length_cons]; omega
theorem idxOfS_range (zs : List ByteArray) (x : ByteArray) : -1 ≤ Lib.idxOfS zs x ∧ Lib.idxOfS zs x < (zs.length : Int) := by
  have := idxFromS_range x zs 0
  unfold Lib.idxOfS
  omega
theorem placeI_range (s : ByteArray) : -1 ≤ placeI s ∧ placeI s ≤ 9223372036854775807 := by
  unfold placeI
  cases h : Lib.atoiAll s.data.toList
  case ok n =>
    have := atoi_range h
    simp only
    split
    · omega
    · split <;> omega
  all_goals simp

/-- The place that a part tells, whether or not there is a kid. -/
def find0 (d : D) (s : ByteArray) : Int := if d.kind = 1 ∨ d.kind = 2 then Lib.idxOfS d.keys s else if d.kind = 3 then placeI s else -1
def findI (d : D) (s : ByteArray) : Int := if (d.kids.length : Int) ≤ find0 d s then -1 else find0 d s
theorem find0_range (d : D) (s : ByteArray) (hl : d.keys.length ≤ 10000) : -1 ≤ find0 d s ∧ find0 d s ≤ 9223372036854775807 := by
  unfold find0
  have h1 := idxOfS_range d.keys s
  have h2 := placeI_range s
  split
  · omega
  · split <;> omega
theorem findI_range (d : D) (s : ByteArray) (hl : d.keys.length ≤ 10000) : -1 ≤ findI d s ∧ findI d s < (d.kids.length : Int) := by
  have := find0_range d s hl
  unfold findI
  split <;> omega

set_option maxHeartbeats 2000000 in
set_option maxRecDepth 100000 in
theorem find_any {d : D} {v0 v1 v2 v3 v4 : Value} {s : ByteArray} {w : World} {B : Nat} (hf : d.Fit) (hs : Short s) (hg : Glob w) (hB : B ≤ w.heap.size) (hd : DocIn w B d v0 v1 v2 v3 v4) :
    Calls Tryz.prog 94 #[.agg #[v0, v1, v2, v3, v4], .string s] w fun e w' => e = .returned (.int .i64 (findI d s)) ∧ Below w.heap.size w w' := by
  have HK := Lib.hid hd.keys_
  obtain ⟨A3, c3, A4, c4, rfl, rfl, rfl, rfl, rfl⟩ := hd.forms
  have hkl := hf.keys; have hdl := hf.kids
  have HG := Lib.hid hg; have HS := Lib.hid hs
  have HR := Lib.hid (find0_range d s hkl)
  clear hd hf hg hs
  have tail : ∀ i : Int, find0 d s = i → Hid (if (d.kids.length : Int) ≤ i then findI d s = -1 else findI d s = i) := fun i hi => by
    show if _ then _ else _
    unfold findI; rw [hi]; split <;> rfl
  have TL := Lib.hid tail; clear tail
  by_cases h1 : d.kind = 1
  · have E0 := Lib.hid (show find0 d s = Lib.idxOfS d.keys s by simp [find0, h1])
    have g1 : (d.kind == 1) = true := by simp [h1]
    clear h1
    have hr := idxOfS_range d.keys s
    have TT := TL.out _ E0.out
    go_enter Tryz.func94, Tryz.ntmps94
    go_wp2_with fail
    refine (idx_any d.keys _ s B _ (HK.out.keep fun p hp => World.cell?_alloc_lt w _ p (by omega)) hkl).mono ?_
    rintro e w1 ⟨rfl, rfl⟩
    by_cases hge : (d.kids.length : Int) ≤ Lib.idxOfS d.keys s
    · go_wp2_with fail
      go_ret
      exact ⟨ret_int (by have := TT.out; rw [if_pos hge] at this; exact this.symm), (Below.refl _ _).alloc (Nat.le_refl _) _⟩
    · go_wp2_with fail
      go_ret
      exact ⟨ret_int (by have := TT.out; rw [if_neg (by omega)] at this; exact this.symm), (Below.refl _ _).alloc (Nat.le_refl _) _⟩
  have g1 : (d.kind == 1) = false := by simp [h1]
  by_cases h2 : d.kind = 2
  · have E0 := Lib.hid (show find0 d s = Lib.idxOfS d.keys s by simp [find0, h2])
    have g2 : (d.kind == 2) = true := by simp [h2]
    clear h1 h2
    have hr := idxOfS_range d.keys s
    have TT := TL.out _ E0.out
    go_enter Tryz.func94, Tryz.ntmps94
    go_wp2_with fail
    refine (idx_any d.keys _ s B _ (HK.out.keep fun p hp => World.cell?_alloc_lt w _ p (by omega)) hkl).mono ?_
    rintro e w1 ⟨rfl, rfl⟩
    by_cases hge : (d.kids.length : Int) ≤ Lib.idxOfS d.keys s
    · go_wp2_with fail
      go_ret
      exact ⟨ret_int (by have := TT.out; rw [if_pos hge] at this; exact this.symm), (Below.refl _ _).alloc (Nat.le_refl _) _⟩
    · go_wp2_with fail
      go_ret
      exact ⟨ret_int (by have := TT.out; rw [if_neg (by omega)] at this; exact this.symm), (Below.refl _ _).alloc (Nat.le_refl _) _⟩
  have g2 : (d.kind == 2) = false := by simp [h2]
  by_cases h3 : d.kind = 3
  · have E0 := Lib.hid (show find0 d s = placeI s by simp [find0, h3])
    have g3 : (d.kind == 3) = true := by simp [h3]
    clear h1 h2 h3
    have hr := placeI_range s
    have TT := TL.out _ E0.out
    have HRR := Lib.hid hr
    have hlo := hr.1
    clear hr
    go_enter Tryz.func94, Tryz.ntmps94
    go_wp2_with fail
    refine (place_any s _ HS.out (HG.out.alloc _)).mono ?_
    rintro e w1 ⟨rfl, hb1⟩
    have hb2 : Below w.heap.size w w1 := ((Below.refl _ _).alloc (Nat.le_refl _) _).trans (hb1.mono (by simp))
    have q4 : w1.cell? ⟨w.heap.size, 4, none⟩ = some (.slice A4 d.kids.length c4) := (hb1.cell (p := ⟨w.heap.size, 4, none⟩) (by simp)).trans (World.cell?_alloc_at _ _ _ _ rfl)
    by_cases hge : (d.kids.length : Int) ≤ placeI s
    · go_wp2_with fail
      go_ret
      exact ⟨ret_int (by have := TT.out; rw [if_pos hge] at this; exact this.symm), hb2⟩
    · go_wp2_with fail
      go_ret
      exact ⟨ret_int (by have := TT.out; rw [if_neg (by omega)] at this; exact this.symm), hb2⟩
  · have g3 : (d.kind == 3) = false := by simp [h3]
    have E0 := Lib.hid (show find0 d s = -1 by simp [find0, h1, h2, h3])
    clear h1 h2 h3
    have TT := TL.out _ E0.out
    go_enter Tryz.func94, Tryz.ntmps94
    go_wp2_with fail
    go_ret
    exact ⟨ret_int (by have := TT.out; rw [if_neg (by omega)] at this; exact this.symm), (Below.refl _ _).alloc (Nat.le_refl _) _⟩
end Go.Proofs.YtlemlgllkcgigaaGreatDoor
namespace Go.Proofs.YtlemlgllkcgigaaGreatDoor
open Go.RowKit

/-- The place of the kid that a part tells. -/
def stepD (d : D) (s : ByteArray) : Option Nat := if 0 ≤ findI d s then some (findI d s).toNat else none
theorem stepD_lt {d : D} {s : ByteArray} {i : Nat} (hl : d.keys.length ≤ 10000) (h : stepD d s = some i) : i < d.kids.length ∧ findI d s = i := by
  have := findI_range d s hl
  unfold stepD at h
  split at h
  · injection h with h; omega
  · cases h
theorem stepD_none {d : D} {s : ByteArray} (h : findI d s < 0) : stepD d s = none := by
  unfold stepD; rw [if_neg (by omega)]
theorem stepD_some {d : D} {s : ByteArray} (h : 0 ≤ findI d s) : stepD d s = some (findI d s).toNat := by
  unfold stepD; rw [if_pos h]
/-- Where a path leads: the places of the kids on its way. -/
def D.locate : D → List ByteArray → Option (List Nat)
  | _, [] => some []
  | d, s :: ps =>
    match stepD d s with
    | none => none
    | some i => match d.kids[i]? with
      | none => none
      | some k => (D.locate k ps).map (i :: ·)
def D.subAt : D → List Nat → Option D
  | d, [] => some d
  | d, i :: is => match d.kids[i]? with
    | none => none
    | some k => D.subAt k is
theorem D.subAt_append : ∀ (d : D) (a b : List Nat), D.subAt d (a ++ b) = (D.subAt d a).bind fun x => D.subAt x b
  | d, [], b => rfl
  | d, i :: a, b => by
    simp only [List.cons_append, D.subAt]
    cases d.kids[i]? with
    | none => rfl
    | some k => exact D.subAt_append k a b
def Leads (w : World) : Nat → Nat → List Nat → Nat → Nat → Prop
  | b, off, [], b', off' => b = b' ∧ off = off'
  | b, off, i :: is, b', off' => ∃ g o n c, w.cell? ⟨b, off + 4, none⟩ = some (.slice (some ⟨g, o, none⟩) n c) ∧ Leads w g (o + i * 5) is b' off'
theorem Leads.snoc {w : World} : ∀ {is : List Nat} {b off b1 o1 g o n c i : Nat}, Leads w b off is b1 o1 → w.cell? ⟨b1, o1 + 4, none⟩ = some (.slice (some ⟨g, o, none⟩) n c) → Leads w b off (is ++ [i]) g (o + i * 5)
  | [], b, off, b1, o1, g, o, n, c, i, h, hc => by
    obtain ⟨rfl, rfl⟩ := h
    exact ⟨g, o, n, c, hc, rfl, rfl⟩
  | j :: is, b, off, b1, o1, g, o, n, c, i, h, hc => by
    obtain ⟨g', o', n', c', h1, h2⟩ := h
    exact ⟨g', o', n', c', h1, Leads.snoc h2 hc⟩
theorem Leads.keep {w w' : World} (hk : ∀ p : Addr, p.block < w.heap.size → w'.cell? p = w.cell? p) : ∀ {is : List Nat} {b off b' off' : Nat}, Leads w b off is b' off' → Leads w' b off is b' off'
  | [], _, _, _, _, h => h
  | i :: is, b, off, b', off', h => by
    obtain ⟨g, o, n, c, h1, h2⟩ := h
    exact ⟨g, o, n, c, (hk _ (World.block_lt_of_cell? _ _ h1)).trans h1, Leads.keep hk h2⟩

/-- Five cells. -/
structure Cells5 (w : World) (b off : Nat) (v0 v1 v2 v3 v4 : Value) : Prop where
  c0 : w.cell? ⟨b, off, none⟩ = some v0
  c1 : w.cell? ⟨b, off + 1, none⟩ = some v1
  c2 : w.cell? ⟨b, off + 2, none⟩ = some v2
  c3 : w.cell? ⟨b, off + 3, none⟩ = some v3
  c4 : w.cell? ⟨b, off + 4, none⟩ = some v4
theorem Cells5.keep {w w' : World} {b off : Nat} {v0 v1 v2 v3 v4 : Value} (h : Cells5 w b off v0 v1 v2 v3 v4) (hk : ∀ o, w'.cell? ⟨b, o, none⟩ = w.cell? ⟨b, o, none⟩) : Cells5 w' b off v0 v1 v2 v3 v4 :=
  ⟨(hk _).trans h.c0, (hk _).trans h.c1, (hk _).trans h.c2, (hk _).trans h.c3, (hk _).trans h.c4⟩
theorem Cells5.lt {w : World} {b off : Nat} {v0 v1 v2 v3 v4 : Value} (h : Cells5 w b off v0 v1 v2 v3 v4) : b < w.heap.size := World.block_lt_of_cell? _ _ h.c0

/-- What doc.at tells: where the path leads, and what stands there. -/
def AtTold (w : World) (B b off : Nat) (d : D) (ps : List ByteArray) (e : Ending) : Prop :=
  (D.locate d ps = none ∧ e = .returned (.pointer none)) ∨
  ∃ (is : List Nat) (b' off' : Nat) (x : D) (u0 u1 u2 u3 u4 : Value), D.locate d ps = some is ∧ e = .returned (.pointer (some ⟨b', off', none⟩)) ∧ Leads w b off is b' off' ∧ D.subAt d is = some x ∧ Cells5 w b' off' u0 u1 u2 u3 u4 ∧ DocIn w B x u0 u1 u2 u3 u4 ∧ x.Fit

theorem locate_none {d : D} {ps : List ByteArray} {k : Nat} {is : List Nat} {x : D} (h : k < ps.length) (hl : D.locate d ps = (D.locate x (ps.drop k)).map (is ++ ·)) (hs : stepD x ps[k] = none) : D.locate d ps = none := by
  rw [hl, List.drop_eq_getElem_cons h]; simp [D.locate, hs]
theorem locate_some {d : D} {ps : List ByteArray} {k i : Nat} {is : List Nat} {x : D} (h : k < ps.length) (hl : D.locate d ps = (D.locate x (ps.drop k)).map (is ++ ·)) (hs : stepD x ps[k] = some i) (hi : i < x.kids.length) :
    D.locate d ps = (D.locate x.kids[i] (ps.drop (k + 1))).map ((is ++ [i]) ++ ·) := by
  rw [hl, List.drop_eq_getElem_cons h]
  simp only [D.locate, hs, List.getElem?_eq_getElem hi, Option.map_map]
  congr 1
  funext l
  simp

set_option maxHeartbeats 4000000 in
set_option maxRecDepth 100000 in
theorem at_any {d : D} {v0 v1 v2 v3 v4 pv : Value} {ps : List ByteArray} {w : World} {B b off : Nat} (hf : d.Fit) (hps : ps.length ≤ 10000) (hs : ∀ s ∈ ps, Short s) (hg : Glob w) (hB : B ≤ w.heap.size)
    (hc : Cells5 w b off v0 v1 v2 v3 v4) (hd : DocIn w B d v0 v1 v2 v3 v4) (hp : Strs w B pv ps) :
    Calls Tryz.prog 60 #[.pointer (some ⟨b, off, none⟩), pv] w fun e w' => AtTold w B b off d ps e ∧ Below w.heap.size w w' := by
  obtain ⟨A, c, rfl, hc1, hc2⟩ := hp
  have HP := Lib.hid hc2; have HS := Lib.hid hs; have HG := Lib.hid hg
  have HF := Lib.hid hf; have HC := Lib.hid hc; have HD := Lib.hid hd
  clear hc2 hs hg hf hc hd
  go_enter Tryz.func60, Tryz.ntmps60
  go_wp2_with fail
  go_loopw [0, 10] (fun p i wr => ∃ (k : Nat) (is : List Nat) (b' off' : Nat) (x : D) (u0 u1 u2 u3 u4 : Value), k ≤ ps.length ∧ i = .int .i64 k ∧ p = .pointer (some ⟨b', off', none⟩) ∧ Leads w b off is b' off' ∧ D.subAt d is = some x ∧
      Cells5 w b' off' u0 u1 u2 u3 u4 ∧ DocIn w B x u0 u1 u2 u3 u4 ∧ x.Fit ∧ D.locate d ps = (D.locate x (ps.drop k)).map (is ++ ·) ∧ Below w.heap.size w wr) (fun _ i _ => ps.length - (intOf i).toNat)
  case atStart => exact ⟨0, [], b, off, d, v0, v1, v2, v3, v4, Nat.zero_le _, rfl, rfl, ⟨rfl, rfl⟩, rfl, HC.out, HD.out, HF.out, by simp, Below.refl _ _⟩
  case round =>
    obtain ⟨k, is, b', off', x, y0, y1, y2, y3, y4, hk, rfl, rfl, hlead, hsub, hcx, hdx, hfx, hloc, hb⟩ := hrel
    have HLD := Lib.hid hlead; have HSB := Lib.hid hsub; have HCX := Lib.hid hcx; have HDX := Lib.hid hdx; have HFX := Lib.hid hfx; have HLC := Lib.hid hloc
    clear hlead hsub hloc
    have hz := hb.size
    by_cases hlt : k < ps.length
    · obtain ⟨pb, po, rfl, hpb, hcells⟩ := HP.out (by omega)
      have gp : wr.cell? ⟨pb, po + k, none⟩ = some (.string ps[k]) := (hb.cell (p := ⟨pb, po + k, none⟩) (by show pb < _; omega)).trans (hcells k hlt)
      clear hcells
      have hbl := hcx.lt
      have hcr := hcx.keep (w' := wr) fun o => hb.cell (p := ⟨b', o, none⟩) hbl
      obtain ⟨A3, c3, A4, c4, rfl, rfl, rfl, rfl, rfl⟩ := hdx.forms
      obtain ⟨g0, g1, g2, g3, g4⟩ := hcr
      have hxk := hfx.keys
      clear hcx hdx hfx
      go_wp2_with fail
      refine (find_any (B := B) HFX.out (HS.out _ (List.getElem_mem hlt)) (HG.out.below hb HG.out.size) (by omega) (HDX.out.below (hb.mono hB))).mono ?_
      rintro e w1 ⟨rfl, hb1⟩
      have hb2 : Below w.heap.size w w1 := hb.trans (hb1.mono hz)
      have hcr1 := HCX.out.keep (w' := w1) fun o => hb2.cell (p := ⟨b', o, none⟩) hbl
      by_cases hneg : findI x ps[k] < 0
      · have E := Lib.hid (locate_none hlt HLC.out (stepD_none hneg))
        go_wp2_with fail
        go_ret
        exact ⟨.inl ⟨E.out, rfl⟩, hb2⟩
      · obtain ⟨i, hi⟩ : ∃ i : Nat, findI x ps[k] = (i : Int) := ⟨(findI x ps[k]).toNat, by omega⟩
        have hst : stepD x ps[k] = some i := by rw [stepD_some (by omega), hi]; simp
        obtain ⟨hik, _⟩ := stepD_lt hxk hst
        have hl2 := locate_some hlt HLC.out hst hik
        have hsub2 : D.subAt d (is ++ [i]) = some x.kids[i] := by rw [D.subAt_append, HSB.out]; simp [D.subAt, List.getElem?_eq_getElem hik]
        obtain ⟨_, hc4, hkk⟩ := HDX.out.kids_
        obtain ⟨kb, ko, rfl, hkb, hki⟩ := hkk (by omega)
        have hkc := KidsIn.at_ hki i hik
        rw [Nat.zero_add] at hkc
        obtain ⟨z0, z1, z2, z3, z4, q0, q1, q2, q3, q4, hdk⟩ := hkc
        have HREL : Hid (Leads w b off (is ++ [i]) kb (ko + i * 5) ∧ D.subAt d (is ++ [i]) = some x.kids[i] ∧ Cells5 w kb (ko + i * 5) z0 z1 z2 z3 z4 ∧ DocIn w B x.kids[i] z0 z1 z2 z3 z4 ∧ (x.kids[i]).Fit ∧
          D.locate d ps = (D.locate x.kids[i] (ps.drop (k + 1))).map ((is ++ [i]) ++ ·)) := ⟨HLD.out.snoc HCX.out.c4, hsub2, ⟨q0, q1, q2, q3, q4⟩, hdk, HFX.out.kid hik, hl2⟩
        obtain ⟨p0, p1, p2, p3, p4⟩ := hcr1
        rw [hi]
        clear hi hst hl2 hsub2 hkk hki q0 q1 q2 q3 q4 hdk hneg
        go_wp2_with fail
        go_roundw
        case rel => exact ⟨k + 1, is ++ [i], kb, ko + i * 5, x.kids[i], z0, z1, z2, z3, z4, by omega, by go_num, rfl, HREL.out.1, HREL.out.2.1, HREL.out.2.2.1, HREL.out.2.2.2.1, HREL.out.2.2.2.2.1, HREL.out.2.2.2.2.2, hb2⟩
        case measure => simp [intOf]; omega
    · have E : Hid (D.locate d ps = some is) := by
        show D.locate d ps = some is
        rw [HLC.out, List.drop_eq_nil_of_le (by omega)]; simp [D.locate]
      go_wp2_with fail
      go_ret
      exact ⟨.inr ⟨is, b', off', x, y0, y1, y2, y3, y4, E.out, rfl, HLD.out, HSB.out, HCX.out, HDX.out, HFX.out⟩, hb⟩
end Go.Proofs.YtlemlgllkcgigaaGreatDoor
namespace Go.Proofs.YtlemlgllkcgigaaGreatDoor
open Go.RowKit

def D.get (d : D) (ps : List ByteArray) : Option D := (D.locate d ps).bind (D.subAt d)
def getV (d : D) (ps : List ByteArray) : D × Bool := match D.get d ps with
  | none => (D.zero, false)
  | some x => (x, true)

set_option maxHeartbeats 4000000 in
set_option maxRecDepth 100000 in
theorem get_v {d : D} {v pv : Value} {ps : List ByteArray} {w : World} {B : Nat} (hf : d.Fit) (hps : ps.length ≤ 10000) (hs : ∀ s ∈ ps, Short s) (hg : Glob w) (hB : B ≤ w.heap.size) (hd : DocV w B d v) (hp : Strs w B pv ps) :
    Calls Tryz.prog 30 #[v, pv] w (MadeDoc2 w.heap.size w (getV d ps).1 (.bool (getV d ps).2)) := by
  obtain ⟨v0, v1, v2, v3, v4, rfl, hd⟩ := hd
  have HD := Lib.hid hd; have HP := Lib.hid hp; have HS := Lib.hid hs; have HG := Lib.hid hg; have HF := Lib.hid hf
  obtain ⟨A3, c3, A4, c4, rfl, rfl, rfl, rfl, rfl⟩ := hd.forms
  obtain ⟨A, c, rfl, hpc, _⟩ := hp
  clear hd hs hg hf
  go_enter Tryz.func30, Tryz.ntmps30
  go_wp2_with fail
  have keep : ∀ o o' : Obj, ∀ p : Addr, p.block < B → ((w.alloc o).alloc o').cell? p = w.cell? p := fun o o' p hp => (World.cell?_alloc_lt (w.alloc _) _ p (by simp; omega)).trans (World.cell?_alloc_lt w _ p (by omega))
  have hx1 := (Box5.new w (.int .i64 d.kind) (.int .i64 d.num) (.string d.str) (.slice A3 d.keys.length c3) (.slice A4 d.kids.length c4)).alloc (.cells #[.int .i64 0, .int .i64 0, .string ⟨#[]⟩, .slice none 0 0, .slice none 0 0] 29)
  have hr1 := Box5.new' (w := w.alloc (.cells #[.int .i64 d.kind, .int .i64 d.num, .string d.str, .slice A3 d.keys.length c3, .slice A4 d.kids.length c4] 29)) (World.size_alloc _ _) (.int .i64 0) (.int .i64 0) (.string ⟨#[]⟩) (.slice none 0 0) (.slice none 0 0)
  refine (at_any (B := B) (d := d) HF.out hps HS.out ((HG.out.alloc _).alloc _) (by simp; omega) ⟨hx1.cells.1, hx1.cells.2.1, hx1.cells.2.2.1, hx1.cells.2.2.2.1, hx1.cells.2.2.2.2⟩ (HD.out.keep (Nat.le_refl _) (keep _ _)) (HP.out.keep (keep _ _))).mono ?_
  rintro e w1 ⟨ht, hb1⟩
  simp only [World.size_alloc] at hb1
  have hz1 := hb1.size
  simp only [World.size_alloc] at hz1
  have hr2 := hr1.same (hb1.block (w.heap.size + 1) (by omega))
  have hbw : Below w.heap.size w w1 := (((Below.refl _ _).alloc (Nat.le_refl _) _).alloc (by simp) _).trans (hb1.mono (by omega))
  have HR2 := Lib.hid hr2
  rcases ht with ⟨hloc, rfl⟩ | ⟨is, b', off', x, u0, u1, u2, u3, u4, hloc, rfl, _, hsub, hcx, hdx, hfx⟩
  · have E : Hid (getV d ps = (D.zero, false)) := by show getV d ps = _; simp [getV, D.get, hloc]
    obtain ⟨r0, r1, r2, r3, r4⟩ := hr2.cells
    have r5 := hr2.frozen
    clear hx1 hr1 keep hloc hr2
    go_wp2_with fail
    have hfin := ((((HR2.out.set0 (.int .i64 0)).set1 (.int .i64 0)).set2 (.string ⟨#[]⟩)).set3 (.slice none 0 0)).set4 (.slice none 0 0)
    refine ret_cell5_2 (u := .bool false) rfl rfl rfl hfin.load rfl ?_
    rw [E.out]
    exact ⟨_, _, _, _, _, [], rfl, OwnIn.zero _ _, List.nodup_nil, ((((hbw.setCell (by show w.heap.size ≤ w.heap.size + 1; omega) _).setCell (by show w.heap.size ≤ w.heap.size + 1; omega) _).setCell (by show w.heap.size ≤ w.heap.size + 1; omega) _).setCell (by show w.heap.size ≤ w.heap.size + 1; omega) _).setCell (by show w.heap.size ≤ w.heap.size + 1; omega) _⟩
  · have E : Hid (getV d ps = (x, true)) := by show getV d ps = _; simp [getV, D.get, hloc, hsub]
    have hcl := hcx.lt
    simp only [World.size_alloc] at hcl
    have hcx1 := hcx.keep (w' := w1) fun o => hb1.cell (p := ⟨b', o, none⟩) hcl
    have hdx1 : DocIn w1 B x u0 u1 u2 u3 u4 := hdx.keep (Nat.le_refl _) fun p hp => hb1.cell (by omega)
    obtain ⟨X3, e3, X4, e4, rfl, rfl, rfl, rfl, rfl⟩ := hdx1.forms
    obtain ⟨q0, q1, q2, q3, q4⟩ := hcx1
    have HDX := Lib.hid hdx1
    clear hx1 hr1 keep hloc hr2 hsub hcx hdx hdx1
    go_wp2_with fail
    refine (copy_v (B := B) (d := x) hfx (by omega) ⟨_, _, _, _, _, rfl, HDX.out⟩).mono ?_
    rintro e w2 ⟨y0, y1, y2, y3, y4, F, rfl, hown, hnd, hb2⟩
    obtain ⟨Y3, f3, Y4, f4, rfl, rfl, rfl, rfl, rfl⟩ := hown.doc.forms
    have hr3 := HR2.out.same (hb2.block (w.heap.size + 1) (by omega))
    obtain ⟨r0, r1, r2, r3, r4⟩ := hr3.cells
    have r5 := hr3.frozen
    have HR3 := Lib.hid hr3; have HO := Lib.hid hown; have HN := Lib.hid hnd; have HB2 := Lib.hid hb2
    clear hr3 hown hnd hb2 q0 q1 q2 q3 q4
    go_wp2_with fail
    have hfin := ((((HR3.out.set0 (.int .i64 x.kind)).set1 (.int .i64 x.num)).set2 (.string x.str)).set3 (.slice Y3 x.keys.length f3)).set4 (.slice Y4 x.kids.length f4)
    refine ret_cell5_2 (u := .bool true) rfl rfl rfl hfin.load rfl ?_
    rw [E.out]
    have hF := HO.out.lt
    refine ⟨_, _, _, _, _, F, rfl, HO.out.same (by omega) fun k hk => ?_, HN.out, (((((hbw.trans (HB2.out.mono (by omega))).setCell (by show w.heap.size ≤ w.heap.size + 1; omega) _).setCell (by show w.heap.size ≤ w.heap.size + 1; omega) _).setCell (by show w.heap.size ≤ w.heap.size + 1; omega) _).setCell (by show w.heap.size ≤ w.heap.size + 1; omega) _).setCell (by show w.heap.size ≤ w.heap.size + 1; omega) _⟩
    have hk1 := (hF k hk).1
    rw [Below.heap_setCell _ _ _ k (by show k ≠ w.heap.size + 1; omega), Below.heap_setCell _ _ _ k (by show k ≠ w.heap.size + 1; omega), Below.heap_setCell _ _ _ k (by show k ≠ w.heap.size + 1; omega), Below.heap_setCell _ _ _ k (by show k ≠ w.heap.size + 1; omega), Below.heap_setCell _ _ _ k (by show k ≠ w.heap.size + 1; omega)]
end Go.Proofs.YtlemlgllkcgigaaGreatDoor
namespace Go.Proofs.YtlemlgllkcgigaaGreatDoor
open Go.RowKit

def D.setKid (d : D) (i : Nat) (x : D) : D := .mk d.kind d.num d.str d.keys (d.kids.set i x)
def D.repl : D → List Nat → D → D
  | _, [], x => x
  | d, i :: is, x => match d.kids[i]? with
    | none => d
    | some k => d.setKid i (D.repl k is x)

/-- Block b is as it was but for the five cells from off on. -/
def UpdBlk (w w' : World) (b off : Nat) : Prop :=
  ∃ (cur cur' : Array Value), w.heap[b]? = some (.cells cur 29 (0, 0)) ∧ w'.heap[b]? = some (.cells cur' 29 (0, 0)) ∧ cur'.size = cur.size ∧ ∀ j, (j < off ∨ off + 5 ≤ j) → cur'[j]? = cur[j]?
theorem UpdBlk.refl {w : World} {b : Nat} (off : Nat) {cur : Array Value} (h : w.heap[b]? = some (.cells cur 29 (0, 0))) : UpdBlk w w b off := ⟨cur, cur, h, h, rfl, fun _ _ => rfl⟩
theorem UpdBlk.same {w w' w'' : World} {b off : Nat} (h : UpdBlk w w' b off) (hs : w''.heap[b]? = w'.heap[b]?) : UpdBlk w w'' b off := by
  obtain ⟨cur, cur', h1, h2, h3, h4⟩ := h
  exact ⟨cur, cur', h1, hs.trans h2, h3, h4⟩
theorem UpdBlk.setCell {w w' : World} {b off : Nat} (h : UpdBlk w w' b off) {o : Nat} (h1 : off ≤ o) (h2 : o < off + 5) (u : Value) : UpdBlk w (w'.setCell ⟨b, o, none⟩ u) b off := by
  obtain ⟨cur, cur', g1, g2, g3, g4⟩ := h
  refine ⟨cur, cur'.setIfInBounds o u, g1, by simp [World.setCell, Array.getElem?_modify, g2], by simpa using g3, fun j hj => ?_⟩
  rw [Array.getElem?_setIfInBounds_ne (by omega)]
  exact g4 j hj
theorem UpdBlk.cell {w w' : World} {b off : Nat} (h : UpdBlk w w' b off) {j : Nat} (hj : j < off ∨ off + 5 ≤ j) : w'.cell? ⟨b, j, none⟩ = w.cell? ⟨b, j, none⟩ := by
  obtain ⟨cur, cur', g1, g2, g3, g4⟩ := h
  rw [cell_of_row w' b j _ _ _ g2, cell_of_row w b j _ _ _ g1, g4 j hj]

theorem OwnIn.parts {w : World} {base : Nat} {d : D} {v0 v1 v2 v3 v4 : Value} {F : List Nat} (h : OwnIn w base d v0 v1 v2 v3 v4 F) :
    v0 = .int .i64 d.kind ∧ v1 = .int .i64 d.num ∧ v2 = .string d.str ∧ w.ownsRow base 9 1 v3 d.keys.length (d.keys.map Value.string) ∧
      ∃ (cs : List Value) (Fs : List Nat), w.ownsRow base 29 5 v4 d.kids.length cs ∧ OwnKids w base d.kids cs Fs ∧ F = blk v3 ++ (blk v4 ++ Fs) := by
  obtain ⟨_, _, _, _, _⟩ := d
  simpa only [OwnIn, D.kind, D.num, D.str, D.keys, D.kids] using h

/-- The row of block g, with five cells of it changed. -/
theorem ownsRow_upd {w w' : World} {base g cap n i : Nat} {c1 c2 : List Value} {v0 v1 v2 v3 v4 y0 y1 y2 y3 y4 : Value} (h : w.ownsRow base 29 5 (.slice (some ⟨g, 0, none⟩) n cap) n (c1 ++ (v0 :: v1 :: v2 :: v3 :: v4 :: c2))) (hl : c1.length = i * 5)
    (hu : UpdBlk w w' g (i * 5)) (hy : Cells5 w' g (i * 5) y0 y1 y2 y3 y4) : w'.ownsRow base 29 5 (.slice (some ⟨g, 0, none⟩) n cap) n (c1 ++ (y0 :: y1 :: y2 :: y3 :: y4 :: c2)) := by
  obtain ⟨h1, h2⟩ := h
  refine ⟨by simpa using h1, ?_⟩
  rcases h2 with ⟨e, _⟩ | ⟨g', cap', cur0, e, hg, hh, r1, r2, r3, r4⟩
  · cases e
  · injection e with e1 e2 e3
    injection e1 with e1
    injection e1 with e1
    subst e1; subst e3
    obtain ⟨cur, cur', g1, g2, g3, g4⟩ := hu
    rw [hh] at g1
    injection g1 with g1
    injection g1 with g1
    subst g1
    refine .inr ⟨g, cap, cur', rfl, hg, g2, r1, r2, by omega, ?_⟩
    have hlen : (c1 ++ (v0 :: v1 :: v2 :: v3 :: v4 :: c2)).length = n * 5 := h1
    have hsz : n * 5 ≤ cur0.size := by rw [r3]; exact Nat.mul_le_mul_right 5 r1
    have hcell : ∀ t, w'.cell? ⟨g, t, none⟩ = cur'[t]? := fun t => cell_of_row w' g t _ _ _ g2
    apply List.ext_getElem?
    intro j
    rw [List.getElem?_take]
    by_cases hj : j < n * 5
    · rw [if_pos hj, Array.getElem?_toList]
      rcases Nat.lt_or_ge j (i * 5) with h3 | h3
      · rw [g4 j (.inl h3), List.getElem?_append_left (by omega)]
        have := congrArg (fun l : List Value => l[j]?) r4
        simp only [List.getElem?_take, if_pos hj, Array.getElem?_toList] at this
        rw [this, List.getElem?_append_left (by omega)]
      · rcases Nat.lt_or_ge j (i * 5 + 5) with h4 | h4
        · rw [← hcell, List.getElem?_append_right (by omega)]
          obtain ⟨t, rfl⟩ : ∃ t, j = i * 5 + t := ⟨j - i * 5, by omega⟩
          rw [show i * 5 + t - c1.length = t from by omega]
          match t, h4 with
          | 0, _ => exact hy.c0
          | 1, _ => exact hy.c1
          | 2, _ => exact hy.c2
          | 3, _ => exact hy.c3
          | 4, _ => exact hy.c4
          | t + 5, h => omega
        · rw [g4 j (.inr h4), List.getElem?_append_right (by omega)]
          have := congrArg (fun l : List Value => l[j]?) r4
          simp only [List.getElem?_take, if_pos hj, Array.getElem?_toList] at this
          rw [this, List.getElem?_append_right (by omega)]
          obtain ⟨t, ht⟩ : ∃ t, j - c1.length = t + 5 := ⟨j - c1.length - 5, by omega⟩
          rw [ht]
          simp
    · rw [if_neg hj, List.getElem?_eq_none (by simp at hlen ⊢; omega)]

structure Focus (w : World) (base : Nat) (d : D) (is : List Nat) (x : D) (b0 off0 : Nat) (v0 v1 v2 v3 v4 : Value) (F : List Nat) (b off : Nat) (u0 u1 u2 u3 u4 : Value) (G : List Nat) : Prop where
  cells : Cells5 w b off u0 u1 u2 u3 u4
  own : OwnIn w base x u0 u1 u2 u3 u4 G
  sub : ∀ k ∈ G, k ∈ F
  out : b ∉ G
  nodup : G.Nodup
  place : (is = [] ∧ b = b0 ∧ off = off0) ∨ b ∈ F
  blkc : ∃ cur : Array Value, w.heap[b]? = some (.cells cur 29 (0, 0))
  back : ∀ (w' : World) (x' : D) (y0 y1 y2 y3 y4 : Value) (G' : List Nat), (∀ k ∈ F, k ∉ G → k ≠ b → w'.heap[k]? = w.heap[k]?) → (b0 ≠ b → w'.heap[b0]? = w.heap[b0]?) → UpdBlk w w' b off → Cells5 w' b off y0 y1 y2 y3 y4 →
    OwnIn w' base x' y0 y1 y2 y3 y4 G' → G'.Nodup → (∀ k ∈ G', k ∈ G ∨ (k ∉ F ∧ k ≠ b0)) → b ∉ G' →
    ∃ (z0 z1 z2 z3 z4 : Value) (F' : List Nat), Cells5 w' b0 off0 z0 z1 z2 z3 z4 ∧ OwnIn w' base (D.repl d is x') z0 z1 z2 z3 z4 F' ∧ F'.Nodup ∧ b0 ∉ F' ∧ ∀ k ∈ F', k ∈ F ∨ k ∈ G'

theorem focus {w : World} {base : Nat} : ∀ (is : List Nat) (d x : D) (b0 off0 : Nat) (v0 v1 v2 v3 v4 : Value) (F : List Nat) (b off : Nat), (∃ cur : Array Value, w.heap[b0]? = some (.cells cur 29 (0, 0))) → Cells5 w b0 off0 v0 v1 v2 v3 v4 → OwnIn w base d v0 v1 v2 v3 v4 F → F.Nodup → b0 ∉ F → D.subAt d is = some x → Leads w b0 off0 is b off →
    ∃ (u0 u1 u2 u3 u4 : Value) (G : List Nat), Focus w base d is x b0 off0 v0 v1 v2 v3 v4 F b off u0 u1 u2 u3 u4 G
  | [], d, x, b0, off0, v0, v1, v2, v3, v4, F, b, off, hbc, hc, ho, hn, hb, hs, hl => by
    obtain ⟨rfl, rfl⟩ := hl
    simp only [D.subAt, Option.some.injEq] at hs
    subst hs
    exact ⟨v0, v1, v2, v3, v4, F, ⟨hc, ho, fun _ h => h, hb, hn, .inl ⟨rfl, rfl, rfl⟩, hbc, fun w' x' y0 y1 y2 y3 y4 G' _ _ _ h4 h5 h6 _ h8 => ⟨y0, y1, y2, y3, y4, G', h4, h5, h6, h8, fun k hk => .inr hk⟩⟩⟩
  | i :: is, d, x, b0, off0, v0, v1, v2, v3, v4, F, b, off, _, hc, ho, hn, hb, hs, hl => by
    obtain ⟨e0, e1, e2, hk3, cs, Fs, hr4, hkids, rfl⟩ := ho.parts
    simp only [D.subAt] at hs
    cases hki : d.kids[i]? with
    | none => rw [hki] at hs; cases hs
    | some k0 =>
      rw [hki] at hs
      simp only at hs
      obtain ⟨hil, rfl⟩ := List.getElem?_eq_some_iff.1 hki
      obtain ⟨t0, t1, t2, t3, t4, c1, c2, F1, G0, F2, rfl, hcl, rfl, ok1, okx, ok2⟩ := hkids.split i hil
      obtain ⟨g, cap, rfl, hgb, hgl⟩ := hr4.form (by omega)
      obtain ⟨g', o', n', cp', hl1, hl2⟩ := hl
      rw [hc.c4] at hl1
      injection hl1 with hl1
      injection hl1 with hl1 hl3 hl4
      injection hl1 with hl1
      injection hl1 with hl5 hl6
      subst hl5; subst hl6
      rw [Nat.zero_add] at hl2
      have hbg : blk (.slice (some ⟨g, 0, none⟩) d.kids.length cap) = [g] := rfl
      have hrow : ∀ t, t < d.kids.length * 5 → w.cell? ⟨g, t, none⟩ = (c1 ++ (t0 :: t1 :: t2 :: t3 :: t4 :: c2))[t]? := fun t ht => hr4.cellAt t ht
      have hmul : i * 5 + 5 ≤ d.kids.length * 5 := by omega
      have hcx : Cells5 w g (i * 5) t0 t1 t2 t3 t4 := by
        constructor
        · rw [hrow _ (by omega), List.getElem?_append_right (by omega), hcl]; simp
        · rw [hrow _ (by omega), List.getElem?_append_right (by omega), hcl]; simp
        · rw [hrow _ (by omega), List.getElem?_append_right (by omega), hcl]; simp
        · rw [hrow _ (by omega), List.getElem?_append_right (by omega), hcl]; simp
        · rw [hrow _ (by omega), List.getElem?_append_right (by omega), hcl]; simp
      rw [hbg] at hn hb
      have hnn := hn
      simp only [List.nodup_append, List.nodup_cons, List.mem_append, List.mem_cons, List.not_mem_nil, or_false, ne_eq, List.nodup_nil, not_false_eq_true, true_and] at hn
      obtain ⟨hn3, ⟨⟨hn1, ⟨hnG, hn2, hnG2⟩, hn1G⟩, hng⟩, hn3d⟩ := hn
      have hgG : g ∉ G0 := fun h => hng g rfl g (.inr (.inl h)) rfl
      have hblk : ∃ cur : Array Value, w.heap[g]? = some (.cells cur 29 (0, 0)) := by
        rcases hr4.2 with ⟨e, _⟩ | ⟨g', cap', cur0, e, _, hh, _⟩
        · cases e
        · injection e with e _ _
          injection e with e
          injection e with e
          subst e
          exact ⟨cur0, hh⟩
      obtain ⟨u0, u1, u2, u3, u4, G, hf⟩ := focus is d.kids[i] x g (i * 5) t0 t1 t2 t3 t4 G0 b off hblk hcx okx hnG hgG hs hl2
      have hbF : b = g ∨ b ∈ G0 := by
        rcases hf.place with ⟨_, h, _⟩ | h
        · exact .inl h
        · exact .inr h
      have hGF : ∀ k ∈ G, k ∈ G0 := hf.sub
      have memF : ∀ k, k ∈ blk v3 ++ ([g] ++ (F1 ++ (G0 ++ F2))) ↔ k ∈ blk v3 ∨ k = g ∨ k ∈ F1 ∨ k ∈ G0 ∨ k ∈ F2 := fun k => by simp [List.mem_append]
      have hbFF : b ∈ blk v3 ++ ([g] ++ (F1 ++ (G0 ++ F2))) := by
        rw [memF]
        rcases hbF with h | h
        · exact .inr (.inl h)
        · exact .inr (.inr (.inr (.inl h)))
      refine ⟨u0, u1, u2, u3, u4, G, ⟨hf.cells, hf.own, fun k hk => by rw [hbg, memF]; exact .inr (.inr (.inr (.inl (hGF k hk)))), hf.out, hf.nodup, .inr (by rw [hbg]; exact hbFF), hf.blkc, ?_⟩⟩
      intro w' x' y0 y1 y2 y3 y4 G' h1 h2 h3 h4 h5 h6 h7 h8
      rw [hbg] at h1 h7
      have hgnG : g ∉ G := fun h => hgG (hGF g h)
      obtain ⟨z0, z1, z2, z3, z4, F0, kc, ko, kn, kg, ks⟩ := hf.back w' x' y0 y1 y2 y3 y4 G' (fun k hk => h1 k (by rw [memF]; exact .inr (.inr (.inr (.inl hk))))) (fun hgb => h1 g (by rw [memF]; exact .inr (.inl rfl)) hgnG hgb) h3 h4 h5 h6
        (fun k hk => by
          rcases h7 k hk with h | ⟨h, _⟩
          · exact .inl h
          · rw [memF] at h
            exact .inr ⟨fun h' => h (.inr (.inr (.inr (.inl h')))), fun h' => h (.inr (.inl h'))⟩) h8
      have hupd : UpdBlk w w' g (i * 5) := by
        by_cases hgb : g = b
        · rcases hf.place with ⟨_, _, h⟩ | h
          · rw [← h, hgb]; exact h3
          · exact absurd (hgb ▸ h) hgG
        · obtain ⟨cur, hcur⟩ := hblk
          exact (UpdBlk.refl _ hcur).same (h1 g (by rw [memF]; exact .inr (.inl rfl)) hgnG hgb)
      have hrow' := ownsRow_upd hr4 hcl hupd kc
      have hb0b : b0 ≠ b := fun h => hb (h ▸ hbFF)
      have hrest : ∀ k, (k ∈ blk v3 ∨ k ∈ F1 ∨ k ∈ F2) → w'.heap[k]? = w.heap[k]? := fun k hk => by
        have hk0 : k ∉ G0 ∧ k ≠ g := by
          rcases hk with hk | hk | hk
          · exact ⟨fun h => hn3d k hk k (.inr (.inr (.inl h))) rfl, fun h => hn3d k hk k (.inl h) rfl⟩
          · exact ⟨fun h => hn1G k hk k (.inl h) rfl, fun h => hng g rfl k (.inl hk) h.symm⟩
          · exact ⟨fun h => hnG2 k h k hk rfl, fun h => hng g rfl k (.inr (.inr hk)) h.symm⟩
        refine h1 k (by rw [memF]; rcases hk with hk | hk | hk
                        · exact .inl hk
                        · exact .inr (.inr (.inl hk))
                        · exact .inr (.inr (.inr (.inr hk)))) (fun h => hk0.1 (hGF k h)) fun h => ?_
        subst h
        rcases hbF with h | h
        · exact hk0.2 h
        · exact hk0.1 h
      have hrep : D.repl d (i :: is) x' = d.setKid i (D.repl d.kids[i] is x') := by simp only [D.repl, hki]
      have hset : d.kids.set i (D.repl d.kids[i] is x') = d.kids.take i ++ D.repl d.kids[i] is x' :: d.kids.drop (i + 1) := by rw [List.set_eq_take_append_cons_drop, if_pos hil]
      refine ⟨v0, v1, v2, v3, .slice (some ⟨g, 0, none⟩) d.kids.length cap, blk v3 ++ ([g] ++ (F1 ++ (F0 ++ F2))), hc.keep fun o => World.cell?_of_block (a := ⟨b0, o, none⟩) (h2 hb0b), ?_, ?_, ?_, ?_⟩
      · rw [hrep, e0, e1, e2, ← hbg]
        refine OwnIn.make (d := d.setKid i (D.repl d.kids[i] is x')) (ownsRow_same hk3 fun k hk => hrest k (.inl hk)) (by simpa [D.setKid, D.kids] using hrow') ?_
        show OwnKids w' base (d.kids.set i (D.repl d.kids[i] is x')) _ _
        rw [hset]
        exact OwnKids.join ko (ok2.same (Nat.le_refl _) fun k hk => hrest k (.inr (.inr hk))) (ok1.same (Nat.le_refl _) fun k hk => hrest k (.inr (.inl hk)))
      · have hF0 : ∀ k ∈ F0, k ∉ blk v3 ∧ k ≠ g ∧ k ∉ F1 ∧ k ∉ F2 := fun k hk => by
          have hk0 : k ∈ G0 ∨ k ∉ blk v3 ++ ([g] ++ (F1 ++ (G0 ++ F2))) := by
            rcases ks k hk with h | h
            · exact .inl h
            · rcases h7 k h with h | ⟨h, _⟩
              · exact .inl (hGF k h)
              · exact .inr h
          rcases hk0 with h | h
          · exact ⟨fun h' => hn3d k h' k (.inr (.inr (.inl h))) rfl, fun h' => hgG (h' ▸ h), fun h' => hn1G k h' k (.inl h) rfl, fun h' => hnG2 k h k h' rfl⟩
          · rw [memF] at h
            exact ⟨fun h' => h (.inl h'), fun h' => h (.inr (.inl h')), fun h' => h (.inr (.inr (.inl h'))), fun h' => h (.inr (.inr (.inr (.inr h'))))⟩
        simp only [List.nodup_append, List.nodup_cons, List.mem_append, List.mem_cons, List.not_mem_nil, or_false, ne_eq, List.nodup_nil, not_false_eq_true, true_and]
        refine ⟨hn3, ⟨⟨hn1, ⟨kn, hn2, fun a ha c hc' hac => (hF0 a ha).2.2.2 (hac ▸ hc')⟩, fun a ha c hc' hac => ?_⟩, fun a ha c hc' hac => ?_⟩, fun a ha c hc' hac => ?_⟩
        · subst hac
          rcases hc' with h | h
          · exact (hF0 a h).2.2.1 ha
          · exact hn1G a ha a (.inr h) rfl
        · subst hac
          rcases hc' with h | h | h
          · exact hng g rfl a (.inl h) ha.symm
          · exact (hF0 a h).2.1 ha
          · exact hng g rfl a (.inr (.inr h)) ha.symm
        · subst hac
          rcases hc' with h | h | h | h
          · exact hn3d a ha a (.inl h) rfl
          · exact hn3d a ha a (.inr (.inl h)) rfl
          · exact (hF0 a h).1 ha
          · exact hn3d a ha a (.inr (.inr (.inr h))) rfl
      · intro hmem
        simp only [List.mem_append, List.mem_cons, List.not_mem_nil, or_false] at hmem
        rw [memF] at hb
        rcases hmem with h | h | h | h | h
        · exact hb (.inl h)
        · exact hb (.inr (.inl h))
        · exact hb (.inr (.inr (.inl h)))
        · rcases ks b0 h with h | h
          · exact hb (.inr (.inr (.inr (.inl h))))
          · rcases h7 b0 h with h | ⟨_, h⟩
            · exact hb (.inr (.inr (.inr (.inl (hGF b0 h)))))
            · exact h rfl
        · exact hb (.inr (.inr (.inr (.inr h))))
      · intro k hk
        rw [hbg, memF]
        simp only [List.mem_append, List.mem_cons, List.not_mem_nil, or_false] at hk
        rcases hk with h | h | h | h | h
        · exact .inl (.inl h)
        · exact .inl (.inr (.inl h))
        · exact .inl (.inr (.inr (.inl h)))
        · rcases ks k h with h | h
          · exact .inl (.inr (.inr (.inr (.inl h))))
          · exact .inr h
        · exact .inl (.inr (.inr (.inr (.inr h))))
end Go.Proofs.YtlemlgllkcgigaaGreatDoor
namespace Go.Proofs.YtlemlgllkcgigaaGreatDoor
open Go.RowKit Go.ChangeShapes
def laidL : List (String × DataW Unit) := [("math/bits.deBruijn32tab", Rows.laid_math_bits_deBruijn32tab), ("math/bits.deBruijn64tab", Rows.laid_math_bits_deBruijn64tab), ("internal/strconv.uint64pow10", Rows.laid_internal_strconv_uint64pow10), ("strconv.ErrRange", Rows.laid_strconv_ErrRange), ("strconv.ErrSyntax", Rows.laid_strconv_ErrSyntax)]
theorem star (s : String) (h : s = "errors.errorString") : "*" ++ s = "*errors.errorString" := by subst h; decide
theorem rowErr (u : TypeId) (h : Tryz.prog.typeName? 3 u = some "*errors.errorString") : u = 176 :=
  typeName_ptr_named (nm := "errors.errorString") (by rw [star _ rfl]; kernel_rfl) (by kernel_rfl) (by decide) u (by rw [star _ rfl]; exact h)
theorem gBits : Tryz.prog.globalNamed "math/bits.deBruijn64tab" = some 5 := by kernel_rfl
theorem glob_of_laid {W : World} (h : laidMetH Tryz.prog laidL W) : Glob W := by
  rw [MakeChecks.laidMetH_plain _ _ _ (by kernel_rfl)] at h
  obtain ⟨a1, s1, hr, _⟩ := laid_sentinel (P := Tryz.prog) (n := "strconv.ErrRange") (h.tail.tail.tail) gRng (by kernel_rfl) Tryz.underlying123 rowErr Tryz.underlying176 Tryz.underlying178 rfl rfl Tryz.underlying9 (by kernel_rfl) (by kernel_rfl)
  obtain ⟨a2, s2, hs, _⟩ := laid_sentinel (P := Tryz.prog) (n := "strconv.ErrSyntax") (h.tail.tail.tail.tail) gSyn (by kernel_rfl) Tryz.underlying123 rowErr Tryz.underlying176 Tryz.underlying178 rfl rfl Tryz.underlying9 (by kernel_rfl) (by kernel_rfl)
  refine ⟨⟨_, _, hs⟩, ⟨_, _, hr⟩, ?_, ?_⟩
  · exact Lib.tabIs_of_head (n := 20) (t := 155) (e := 139) gTab (by kernel_rfl) Tryz.underlying155 Tryz.underlying139 (by kernel_rfl) (by kernel_rfl) h.tail.tail
  · obtain ⟨ps, ⟨g', t', cs, fuel, p, q, hg', ht', hvar, hd, _, _⟩, _⟩ := h.tail
    obtain rfl := Option.some.inj (gBits.symm.trans hg')
    rcases Nat.lt_or_ge 5 W.heap.size with h' | h'
    · exact h'
    · exfalso
      have e := hvar
      simp only [World.var?, gBits, Option.bind_some, Array.getElem?_eq_none h'] at e
      cases e
end Go.Proofs.YtlemlgllkcgigaaGreatDoor
