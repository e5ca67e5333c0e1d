/-
  
-/
import Derived.Test.YtdcempejdggkpaaGreatDoorB08
import Derived.Test.YtdcempejdggkpaaGreatDoorB15
import Derived.Lib.AppendIntMem
namespace Go.Proofs.YtdcempejdggkpaaGreatDoor
open Go.RowKit

/-- The library's variables that a walk reads: what they hold. -/
structure Glob (w : World) : Prop where
  syn : ∃ (tp : TypeId) (p : Value), w.var? Tryz.prog "strconv.ErrSyntax" = some #[.iface tp p]
  rng : ∃ (tp : TypeId) (p : Value), w.var? Tryz.prog "strconv.ErrRange" = some #[.iface tp p]
  tab : Lib.TabIs Tryz.prog w "internal/strconv.uint64pow10" .u64 Lib.pow10Tab
  size : 5 < w.heap.size
theorem var_same {P : Program} {w w' : World} {n : String} {g : Nat} (hg : P.globalNamed n = some g) (hs : w'.heap[g]? = w.heap[g]?) : w'.var? P n = w.var? P n := by
  simp [World.var?, hg, hs]
theorem gSyn : Tryz.prog.globalNamed "strconv.ErrSyntax" = some 1 := by kernel_rfl
theorem gRng : Tryz.prog.globalNamed "strconv.ErrRange" = some 2 := by kernel_rfl
theorem gTab : Tryz.prog.globalNamed "internal/strconv.uint64pow10" = some 3 := by kernel_rfl
theorem Glob.below {w w' : World} {B : Nat} (h : Glob w) (hb : Below B w w') (hB : 5 < B) : Glob w' where
  syn := by obtain ⟨tp, p, e⟩ := h.syn; exact ⟨tp, p, (var_same gSyn (hb.block _ (by omega))).trans e⟩
  rng := by obtain ⟨tp, p, e⟩ := h.rng; exact ⟨tp, p, (var_same gRng (hb.block _ (by omega))).trans e⟩
  tab := by have := h.tab; unfold Lib.TabIs at *; rw [var_same gTab (hb.block _ (by omega))]; exact this
  size := by have := h.size; have := hb.size; omega
theorem Glob.alloc {w : World} (h : Glob w) (o : Obj) : Glob (w.alloc o) := h.below ((Below.refl w.heap.size w).alloc (Nat.le_refl _) o) h.size

def Short (s : ByteArray) : Prop := s.size ≤ 140737488355328
theorem Short.of {s : ByteArray} (h : s.size ≤ 10000) : Short s := by unfold Short; omega
def placeI (s : ByteArray) : Int :=
  match Lib.atoiAll s.data.toList with
  | .ok n => if n < 0 then -1 else if Lib.itoa n = s.data.toList then n else -1
  | _ => -1
theorem below_bytes (w : World) (e : TypeId) (s : ByteArray) : Below w.heap.size w (Lib.bytesWorld w e s) := ⟨rfl, rfl, rfl, by rw [Lib.bytesWorld_size]; omega, fun j hj => Lib.bytesWorld_at_old w e s j hj⟩
theorem atoi_ok {s : ByteArray} {n : Int} (hs : Short s) (h : Lib.atoiAll s.data.toList = .ok n) (w : World) :
    Calls Tryz.prog 63 #[.string s] w fun e w' => e = .returned (.tuple #[.int .i64 n, .nilIface]) ∧ Below w.heap.size w w' := by
  refine (Tryz.strconv_Atoi_ok s (by unfold Short at hs; omega) n h w).mono ?_
  rintro e w' ⟨he, hw⟩
  refine ⟨he, ?_⟩
  rcases hw with rfl | ⟨t, rfl⟩
  · exact Below.refl _ _
  · exact below_bytes _ _ _
theorem atoi_bad {s : ByteArray} (hs : Short s) (h : ∀ n, Lib.atoiAll s.data.toList ≠ .ok n) (w : World) (hg : Glob w) :
    Calls Tryz.prog 63 #[.string s] w fun e w' => (∃ (n : Int) (N : Nat), e = .returned (.tuple #[.int .i64 n, .iface 95 (.pointer (some ⟨N, 0, none⟩))])) ∧ Below w.heap.size w w' := by
  unfold Short at hs
  obtain ⟨tp, p, e1⟩ := hg.syn
  obtain ⟨tp', p', e2⟩ := hg.rng
  cases hh : Lib.atoiAll s.data.toList
  case ok n => exact absurd hh (h n)
  case range => exact (Tryz.strconv_Atoi_range_var s (by omega) hh tp' p' w e2).mono fun _ _ ⟨N, he, _, _, hb⟩ => ⟨⟨_, N, he⟩, hb⟩
  exact (Tryz.strconv_Atoi_syntax_var s (by omega) hh tp p w e1).mono fun _ _ ⟨N, he, _, _, hb⟩ => ⟨⟨_, N, he⟩, hb⟩
theorem atoi_range {l : List UInt8} {n : Int} (h : Lib.atoiAll l = .ok n) : -9223372036854775808 ≤ n ∧ n ≤ 9223372036854775807 := by
  cases l with
  | nil => cases h
  | cons c r =>
    simp only [Lib.atoiAll] at h
    generalize Lib.parseMag _ = q at h
    cases q
    case ok u =>
      simp only at h
      by_cases h1 : ¬ c.toNat = 45 ∧ 9223372036854775808 ≤ u
      · rw [if_pos h1] at h; cases h
      · rw [if_neg h1] at h
        by_cases h2 : c.toNat = 45 ∧ 9223372036854775808 < u
        · rw [if_pos h2] at h; cases h
        · rw [if_neg h2] at h
          injection h with h
          subst h
          by_cases hn : c.toNat = 45
          · rw [if_pos hn]; have : ¬ 9223372036854775808 < u := fun hh => h2 ⟨hn, hh⟩; omega
          · rw [if_neg hn]; have : ¬ 9223372036854775808 ≤ u := fun hh => h1 ⟨hn, hh⟩; omega
    all_goals cases h
theorem itoa_any {n : Int} (h0 : -9223372036854775808 ≤ n) (h1 : n ≤ 9223372036854775807) (w : World) (hg : Glob w) :
    Calls Tryz.prog 64 #[.int .i64 n] w fun e w' => (∃ t : ByteArray, e = .returned (.string t) ∧ t.data.toList = Lib.itoa n) ∧ Below w.heap.size w w' :=
  (Tryz.strconv_Itoa n h0 h1 w hg.tab).mono fun _ _ ⟨he, k, os, hw⟩ => ⟨⟨_, he, by simp⟩, by rw [hw]; exact Lib.below_grow _ _ (Nat.le_refl _) _ _⟩

set_option maxHeartbeats 1000000 in
theorem place_any (s : ByteArray) (w : World) (hs : Short s) (hg : Glob w) : Calls Tryz.prog 47 #[.string s] w fun e w' => e = .returned (.int .i64 (placeI s)) ∧ Below w.heap.size w w' := by
  have HG := Lib.hid hg; have HS := Lib.hid hs
  clear hg hs
  by_cases hok : ∃ n, Lib.atoiAll s.data.toList = .ok n
  · obtain ⟨n, hn⟩ := hok
    have HR := Lib.hid (atoi_range hn)
    have HN := Lib.hid hn; clear hn
    by_cases hneg : n < 0
    · have E : Hid (placeI s = -1) := by show placeI s = -1; unfold placeI; rw [HN.out]; simp only; rw [if_pos (by omega)]
      go_enter Tryz.func47, Tryz.ntmps47
      go_wp2_with fail
      refine (atoi_ok HS.out HN.out _).mono ?_
      rintro e w1 ⟨rfl, hb1⟩
      go_wp2_with fail
      go_ret
      exact ⟨ret_int E.out.symm, hb1⟩
    · go_enter Tryz.func47, Tryz.ntmps47
      go_wp2_with fail
      refine (atoi_ok HS.out HN.out _).mono ?_
      rintro e w1 ⟨rfl, hb1⟩
      go_wp2_with fail
      refine (itoa_any HR.out.1 HR.out.2 w1 (HG.out.below hb1 HG.out.size)).mono ?_
      rintro e w2 ⟨⟨t, rfl, ht⟩, hb2⟩
      have HT := Lib.hid ht; clear ht
      have hb3 := hb1.trans (hb2.mono hb1.size)
      by_cases heq : Lib.itoa n = s.data.toList
      · have E : Hid (placeI s = n) := by show placeI s = n; unfold placeI; rw [HN.out]; simp only; rw [if_neg (by omega), if_pos heq]
        have hts : (t.toList == s.toList) = true := by rw [ByteArray.toList_eq, ByteArray.toList_eq, HT.out, heq, beq_iff_eq]
        clear heq
        go_wp2_with fail
        go_ret
        exact ⟨ret_int E.out.symm, hb3⟩
      · have E : Hid (placeI s = -1) := by show placeI s = -1; unfold placeI; rw [HN.out]; simp only; rw [if_neg (by omega), if_neg heq]
        have hts : (t.toList == s.toList) = false := by rw [ByteArray.toList_eq, ByteArray.toList_eq, HT.out, beq_eq_false_iff_ne]; exact heq
        clear heq
        go_wp2_with fail
        go_ret
        exact ⟨ret_int E.out.symm, hb3⟩
  · have E : Hid (placeI s = -1) := by
      show placeI s = -1; unfold placeI
      cases hh : Lib.atoiAll s.data.toList
      case ok n => exact absurd ⟨n, hh⟩ hok
      all_goals rfl
    have HB := Lib.hid (fun n h => hok ⟨n, h⟩ : ∀ n, Lib.atoiAll s.data.toList ≠ .ok n)
    clear hok
    go_enter Tryz.func47, Tryz.ntmps47
    go_wp2_with fail
    refine (atoi_bad HS.out HB.out _ HG.out).mono ?_
    rintro e w1 ⟨⟨n, N, rfl⟩, hb1⟩
    go_wp2_with fail
    go_ret
    exact ⟨ret_int E.out.symm, hb1⟩

theorem idx_any (xs : List ByteArray) (v : Value) (x : ByteArray) (B : Nat) (w : World) (hv : Strs w B v xs) (hl : xs.length ≤ 10000) :
    Calls Tryz.prog 56 #[v, .string x] w fun e w' => e = .returned (.int .i64 (Lib.idxOfS xs x)) ∧ w' = w := by
  obtain ⟨A, c, rfl, hc1, hc2⟩ := hv
  rcases Nat.eq_zero_or_pos xs.length with h0 | h0
  · obtain rfl : xs = [] := List.eq_nil_of_length_eq_zero h0
    exact Tryz.slices_Index_string_empty A c x w
  · obtain ⟨b, off, rfl, _, hc⟩ := hc2 h0
    have := Tryz.slices_Index_string b off xs.length c xs x w (Nat.le_refl _) (by omega) (fun j hj => by rw [hc j hj]; simp [List.getD, hj])
    rwa [List.take_length] at this
theorem idxFromS_range (x : ByteArray) : ∀ (zs : List ByteArray) (i : Nat), -1 ≤ Lib.idxFromS zs x i ∧ Lib.idxFromS zs x i < (i + zs.length : Nat)
  | [], i => by simp [Lib.idxFromS]; omega
  | z :: zs, i => by
    have := idxFromS_range x zs (i + 1)
    unfold Lib.idxFromS
    split
    · simp; omega
    · simp only [List.length_cons]; omega
theorem idxOfS_range (zs : List ByteArray) (x : ByteArray) : -1 ≤ Lib.idxOfS zs x ∧ Lib.idxOfS zs x < (zs.length : Int) := by
  have := idxFromS_range x zs 0
  unfold Lib.idxOfS
  omega
theorem placeI_range (s : ByteArray) : -1 ≤ placeI s ∧ placeI s ≤ 9223372036854775807 := by
  unfold placeI
  cases h : Lib.atoiAll s.data.toList
  case ok n =>
    have := atoi_range h
    simp only
    split
    · omega
    · split <;> omega
  all_goals simp

/-- The place that a part tells, whether or not there is a kid. -/
def find0 (d : D) (s : ByteArray) : Int := if d.kind = 1 ∨ d.kind = 2 then Lib.idxOfS d.keys s else if d.kind = 3 then placeI s else -1
def findI (d : D) (s : ByteArray) : Int := if (d.kids.length : Int) ≤ find0 d s then -1 else find0 d s
theorem find0_range (d : D) (s : ByteArray) (hl : d.keys.length ≤ 10000) : -1 ≤ find0 d s ∧ find0 d s ≤ 9223372036854775807 := by
  unfold find0
  have h1 := idxOfS_range d.keys s
  have h2 := placeI_range s
  split
  · omega
  · split <;> omega
theorem findI_range (d : D) (s : ByteArray) (hl : d.keys.length ≤ 10000) : -1 ≤ findI d s ∧ findI d s < (d.kids.length : Int) := by
  have := find0_range d s hl
  unfold findI
  split <;> omega

set_option maxHeartbeats 2000000 in
set_option maxRecDepth 100000 in
theorem find_any {d : D} {v0 v1 v2 v3 v4 : Value} {s : ByteArray} {w : World} {B : Nat} (hf : d.Fit) (hs : Short s) (hg : Glob w) (hB : B ≤ w.heap.size) (hd : DocIn w B d v0 v1 v2 v3 v4) :
    Calls Tryz.prog 42 #[.agg #[v0, v1, v2, v3, v4], .string s] w fun e w' => e = .returned (.int .i64 (findI d s)) ∧ Below w.heap.size w w' := by
  have HK := Lib.hid hd.keys_
  obtain ⟨A3, c3, A4, c4, rfl, rfl, rfl, rfl, rfl⟩ := hd.forms
  have hkl := hf.keys; have hdl := hf.kids
  have HG := Lib.hid hg; have HS := Lib.hid hs
  have HR := Lib.hid (find0_range d s hkl)
  clear hd hf hg hs
  have tail : ∀ i : Int, find0 d s = i → Hid (if (d.kids.length : Int) ≤ i then findI d s = -1 else findI d s = i) := fun i hi => by
    show if _ then _ else _
    unfold findI; rw [hi]; split <;> rfl
  have TL := Lib.hid tail; clear tail
  by_cases h1 : d.kind = 1
  · have E0 := Lib.hid (show find0 d s = Lib.idxOfS d.keys s by simp [find0, h1])
    have g1 : (d.kind == 1) = true := by simp [h1]
    clear h1
    have hr := idxOfS_range d.keys s
    have TT := TL.out _ E0.out
    go_enter Tryz.func42, Tryz.ntmps42
    go_wp2_with fail
    refine (idx_any d.keys _ s B _ (HK.out.keep fun p hp => World.cell?_alloc_lt w _ p (by omega)) hkl).mono ?_
    rintro e w1 ⟨rfl, rfl⟩
    by_cases hge : (d.kids.length : Int) ≤ Lib.idxOfS d.keys s
    · go_wp2_with fail
      go_ret
      exact ⟨ret_int (by have := TT.out; rw [if_pos hge] at this; exact this.symm), (Below.refl _ _).alloc (Nat.le_refl _) _⟩
    · go_wp2_with fail
      go_ret
      exact ⟨ret_int (by have := TT.out; rw [if_neg (by omega)] at this; exact this.symm), (Below.refl _ _).alloc (Nat.le_refl _) _⟩
  have g1 : (d.kind == 1) = false := by simp [h1]
  by_cases h2 : d.kind = 2
  · have E0 := Lib.hid (show find0 d s = Lib.idxOfS d.keys s by simp [find0, h2])
    have g2 : (d.kind == 2) = true := by simp [h2]
    clear h1 h2
    have hr := idxOfS_range d.keys s
    have TT := TL.out _ E0.out
    go_enter Tryz.func42, Tryz.ntmps42
    go_wp2_with fail
    refine (idx_any d.keys _ s B _ (HK.out.keep fun p hp => World.cell?_alloc_lt w _ p (by omega)) hkl).mono ?_
    rintro e w1 ⟨rfl, rfl⟩
    by_cases hge : (d.kids.length : Int) ≤ Lib.idxOfS d.keys s
    · go_wp2_with fail
      go_ret
      exact ⟨ret_int (by have := TT.out; rw [if_pos hge] at this; exact this.symm), (Below.refl _ _).alloc (Nat.le_refl _) _⟩
    · go_wp2_with fail
      go_ret
      exact ⟨ret_int (by have := TT.out; rw [if_neg (by omega)] at this; exact this.symm), (Below.refl _ _).alloc (Nat.le_refl _) _⟩
  have g2 : (d.kind == 2) = false := by simp [h2]
  by_cases h3 : d.kind = 3
  · have E0 := Lib.hid (show find0 d s = placeI s by simp [find0, h3])
    have g3 : (d.kind == 3) = true := by simp [h3]
    clear h1 h2 h3
    have hr := placeI_range s
    have TT := TL.out _ E0.out
    have HRR := Lib.hid hr
    have hlo := hr.1
    clear hr
    go_enter Tryz.func42, Tryz.ntmps42
    go_wp2_with fail
    refine (place_any s _ HS.out (HG.out.alloc _)).mono ?_
    rintro e w1 ⟨rfl, hb1⟩
    have hb2 : Below w.heap.size w w1 := ((Below.refl _ _).alloc (Nat.le_refl _) _).trans (hb1.mono (by simp))
    have q4 : w1.cell? ⟨w.heap.size, 4, none⟩ = some (.slice A4 d.kids.length c4) := (hb1.cell (p := ⟨w.heap.size, 4, none⟩) (by simp)).trans (World.cell?_alloc_at _ _ _ _ rfl)
    by_cases hge : (d.kids.length : Int) ≤ placeI s
    · go_wp2_with fail
      go_ret
      exact ⟨ret_int (by have := TT.out; rw [if_pos hge] at this; exact this.symm), hb2⟩
    · go_wp2_with fail
      go_ret
      exact ⟨ret_int (by have := TT.out; rw [if_neg (by omega)] at this; exact this.symm), hb2⟩
  · have g3 : (d.kind == 3) = false := by simp [h3]
    have E0 := Lib.hid (show find0 d s = -1 by simp [find0, h1, h2, h3])
    clear h1 h2 h3
    have TT := TL.out _ E0.out
    go_enter Tryz.func42, Tryz.ntmps42
    go_wp2_with fail
    go_ret
    exact ⟨ret_int (by have := TT.out; rw [if_neg (by omega)] at this; exact this.symm), (Below.refl _ _).alloc (Nat.le_refl _) _⟩
end Go.Proofs.YtdcempejdggkpaaGreatDoor
