/-
  SchemaCopies: a copy is the same, and of its own, and a type that is put into a field, a dictionary or a list is found there.
-/
import Derived.Test.YtcbbocnblgpbbaaDoorTCop0
namespace Go.Proofs.YtcbbocnblgpbbaaDoor
open Go.RowKit

set_option maxHeartbeats 4000000 in
set_option maxRecDepth 100000 in
theorem copies_any {t : T} {A3 A4 A5 : Option Addr} {s : ByteArray} {c3 c4 c5 : Nat} {w : World} (ht : TypeIn w w.heap.size t (.int .i64 t.kind) (.int .i64 t.lo) (.int .i64 t.hi) (.slice A3 t.names.length c3) (.slice A4 t.fields.length c4) (.slice A5 t.of.length c5)) :
    Calls Tryd.prog 7 #[.agg #[.int .i64 t.kind, .int .i64 t.lo, .int .i64 t.hi, .slice A3 t.names.length c3, .slice A4 t.fields.length c4, .slice A5 t.of.length c5], .string s] w fun e w' => e = .returned (.bool true) ∧ Below w.heap.size w w' := by
  have HT := Lib.hid ht
  clear ht
  generalize hv3 : Value.slice A3 t.names.length c3 = v3 at HT ⊢
  generalize hv4 : Value.slice A4 t.fields.length c4 = v4 at HT ⊢
  generalize hv5 : Value.slice A5 t.of.length c5 = v5 at HT ⊢
  go_enter Tryd.func7, Tryd.ntmps7
  go_wp2_with fail
  refine (tsmall_any _).mono ?_
  rintro e w1 ⟨rfl, hb1⟩
  have hz1 := hb1.size
  simp only [World.size_alloc] at hz1
  have HX1 : Hid (Box6 w1 w.heap.size (.int .i64 t.kind) (.int .i64 t.lo) (.int .i64 t.hi) v3 v4 v5) := (Box6.new w _ _ _ _ _ _).same (hb1.block _ (by simp))
  have HC1 : Hid (Below w.heap.size w w1) := ((Below.refl _ _).alloc (Nat.le_refl _) _).trans (hb1.mono (by simp))
  clear hb1
  have htv1 : TypeV w1 w1.heap.size t (.agg #[.int .i64 t.kind, .int .i64 t.lo, .int .i64 t.hi, v3, v4, v5]) := ⟨_, _, _, _, _, _, rfl, HT.out.keep HC1.out.size fun p hp => HC1.out.cell hp⟩
  obtain ⟨x0, x1, x2, x3, x4, x5⟩ := HX1.out.cells
  have hxl : w.heap.size < w1.heap.size := by omega
  go_wp2_with fail
  refine (few_v (Nat.le_refl _) htv1).mono ?_
  rintro e w2 ⟨rfl, hb2⟩
  have hz2 := hb2.size
  have HX2 := Lib.hid (HX1.out.same (hb2.block _ hxl))
  have HC2 : Hid (Below w.heap.size w w2) := HC1.out.trans (hb2.mono HC1.out.size)
  clear hb2 htv1 x0 x1 x2 x3 x4 x5 HX1 HC1
  cases hfew : fewB t
  · go_wp2_with fail
    go_ret
    exact ⟨rfl, HC2.out⟩
  have hok : okFew t 20 := by simpa [fewB] using hfew
  have hfit : t.Fit := fit_of_allP t hok.2.2
  have hdep : t.depth ≤ 20 := hok.1
  have hsiz : t.size ≤ 199 := hok.2.1
  have HFIT := Lib.hid hfit
  have hok2 := hok.2.2
  clear hok hfit
  have htv2 : TypeV w2 w2.heap.size t (.agg #[.int .i64 t.kind, .int .i64 t.lo, .int .i64 t.hi, v3, v4, v5]) := ⟨_, _, _, _, _, _, rfl, HT.out.keep HC2.out.size fun p hp => HC2.out.cell hp⟩
  obtain ⟨x0, x1, x2, x3, x4, x5⟩ := HX2.out.cells
  have hxl2 : w.heap.size < w2.heap.size := by omega
  go_wp2_with fail
  refine (tcopy_any (B := w2.heap.size) HFIT.out (by omega) (Nat.le_refl _) htv2).mono ?_
  rintro e w3 ⟨y3, y4, y5, rfl, hcp, hb3⟩
  have hz3 := hb3.size
  obtain ⟨B3, d3, B4, d4, B5, d5, rfl, rfl, rfl⟩ := hcp.forms
  have HY3 := Lib.hid hcp
  have HX3 := Lib.hid (HX2.out.same (hb3.block _ hxl2))
  have HC3 : Hid (Below w.heap.size w w3) := HC2.out.trans (hb3.mono HC2.out.size)
  clear hb3 hcp htv2 x0 x1 x2 x3 x4 x5 HX2
  subst hv3 hv4 hv5
  obtain ⟨x0, x1, x2, x3, x4, x5⟩ := HX3.out.cells
  have l0 : w.heap.size < w3.heap.size := by omega
  have l1 : w.heap.size < w3.heap.size + 1 := by omega
  have l2 : w.heap.size < w3.heap.size + 1 + 1 := by omega
  have l3 : w.heap.size < w3.heap.size + 1 + 1 + 1 := by omega
  have l4 : w.heap.size < w3.heap.size + 1 + 1 + 1 + 1 := by omega
  have l5 : w.heap.size < w3.heap.size + 1 + 1 + 1 + 1 + 1 := by omega
  rcases Nat.eq_zero_or_pos t.fields.length with hf0 | hf0
  · have hf1 : ¬ (0 : Int) < (t.fields.length : Int) := by omega
    have hf2 : decide ((0 : Int) < (t.fields.length : Int)) = false := decide_eq_false hf1
    have hl0 : ((t.fields.length : Int) == 0) = true := by rw [beq_iff_eq]; omega
    have hfl2 : (t.fields.length : Int) ≤ 60 := by omega
    clear hf0
    go_wp2_with fail
    obtain ⟨w4, hw4⟩ : ∃ w4, w4 = ((((((w3.alloc (.cells #[.int .i64 t.kind, .int .i64 t.lo, .int .i64 t.hi, .slice B3 t.names.length d3, .slice B4 t.fields.length d4, .slice B5 t.of.length d5] 26)).alloc
      (.cells #[.int .i64 t.kind, .int .i64 t.lo, .int .i64 t.hi, .slice A3 t.names.length c3, .slice A4 t.fields.length c4, .slice A5 t.of.length c5] 26)).alloc
      (.cells #[.int .i64 2, .int .i64 0, .int .i64 3, .slice none 0 0, .slice none 0 0, .slice (some ⟨w3.heap.size + 1, 0, none⟩) 1 1] 26)).alloc
      (.cells #[.int .i64 t.kind, .int .i64 t.lo, .int .i64 t.hi, .slice A3 t.names.length c3, .slice A4 t.fields.length c4, .slice A5 t.of.length c5] 26)).alloc
      (.cells #[.int .i64 3, .int .i64 0, .int .i64 3, .slice none 0 0, .slice none 0 0, .slice (some ⟨w3.heap.size + 1 + 1 + 1, 0, none⟩) 1 1] 26)).alloc
      (.cells #[.string s] 9)) := ⟨_, rfl⟩
    have hz4 : w4.heap.size = w3.heap.size + 1 + 1 + 1 + 1 + 1 + 1 := by rw [hw4]; simp
    have hb34 : Below w3.heap.size w3 w4 := by
      rw [hw4]
      exact ((((((Below.refl _ _).alloc (Nat.le_refl _) _).alloc (by simp) _).alloc (by simp; omega) _).alloc (by simp; omega) _).alloc (by simp; omega) _).alloc (by simp; omega) _
    have hpath : w4.heap[w3.heap.size + 1 + 1 + 1 + 1 + 1]? = some (.cells #[.string s] 9 (0, 0)) := by
      rw [hw4]
      exact heap_at _ (by simp)
    have ST4 : Hid (CopSt w w3 w4 w3.heap.size w2.heap.size t A3 A4 A5 B3 B4 B5 c3 c4 c5 d3 d4 d5) := by
      refine ⟨HC3.out.trans (hb34.mono HC3.out.size), fun k hk => hb34.block k hk, hxl2, hz3, by omega, HT.out, HX3.out.same (hb34.block _ l0), ?_, ?_, ?_, ?_, ?_, HY3.out.later hb34.size fun k _ hk => hb34.block k hk⟩
      all_goals rw [hw4]
      · exact (((((Box6.new w3 _ _ _ _ _ _).alloc _).alloc _).alloc _).alloc _).alloc _
      · exact ((((Box6.new' (by simp) _ _ _ _ _ _).alloc _).alloc _).alloc _).alloc _
      · exact (((Box6.new' (by simp) _ _ _ _ _ _).alloc _).alloc _).alloc _
      · exact ((Box6.new' (by simp) _ _ _ _ _ _).alloc _).alloc _
      · exact (Box6.new' (by simp) _ _ _ _ _ _).alloc _
    rw [← hw4]
    clear hw4 hb34 x0 x1 x2 x3 x4 x5 l1 l2 l3 l4 l5 HX3
    refine (tat_any (t := dictOf t) (ps := [s]) (dictOf_fit HFIT.out) (by rw [dictOf_depth]; omega) (by simp) (Nat.le_refl _) ST4.out.dv (one_way hpath (by omega))).mono ?_
    rw [dictOf_at]
    rintro e w5 ⟨y3, y4, y5, rfl, hcp, hb5⟩
    obtain ⟨D3, e3, D4, e4, D5, e5, rfl, rfl, rfl⟩ := hcp.forms
    rw [show (some t).getD T.zero = t from rfl] at hcp ⊢
    have hz5 := hb5.size
    have ST5 := Lib.hid (ST4.out.next hb5)
    have HA5 := Lib.hid hcp
    clear hcp hb5 hpath
    obtain ⟨x0, x1, x2, x3, x4, x5⟩ := ST5.out.bi.cells
    have l0 : w3.heap.size + 1 + 1 + 1 + 1 < w5.heap.size := by omega
    have l1 : w3.heap.size + 1 + 1 + 1 + 1 < w5.heap.size + 1 := by omega
    go_wp2_with fail
    obtain ⟨w6, hw6⟩ : ∃ w6, w6 = (w5.alloc (.cells #[.int .i64 t.kind, .int .i64 t.lo, .int .i64 t.hi, .slice D3 t.names.length e3, .slice D4 t.fields.length e4, .slice D5 t.of.length e5] 26)).alloc (.cells #[.string ⟨#[48]⟩] 9) := ⟨_, rfl⟩
    have hz6 : w6.heap.size = w5.heap.size + 1 + 1 := by rw [hw6]; simp
    have hb6 : Below w5.heap.size w5 w6 := by rw [hw6]; exact ((Below.refl _ _).alloc (Nat.le_refl _) _).alloc (by simp) _
    have hpath : w6.heap[w5.heap.size + 1]? = some (.cells #[.string ⟨#[48]⟩] 9 (0, 0)) := by rw [hw6]; exact heap_at _ (by simp)
    have HBA6 : Hid (Box6 w6 w5.heap.size (.int .i64 t.kind) (.int .i64 t.lo) (.int .i64 t.hi) (.slice D3 t.names.length e3) (.slice D4 t.fields.length e4) (.slice D5 t.of.length e5)) := by rw [hw6]; exact (Box6.new w5 _ _ _ _ _ _).alloc _
    have ST6 := Lib.hid (ST5.out.next hb6)
    have HA6 := Lib.hid (HA5.out.later hb6.size fun k _ hk => hb6.block k hk)
    rw [← hw6]
    clear hw6 hb6 x0 x1 x2 x3 x4 x5 l0 l1 ST5 HA5 ST4
    refine (tat_any (t := listOf t) (ps := [⟨#[48]⟩]) (listOf_fit HFIT.out) (by rw [listOf_depth]; omega) (by simp) (Nat.le_refl _) ST6.out.lv (one_way hpath (by omega))).mono ?_
    rw [listOf_at]
    rintro e w7 ⟨y3, y4, y5, rfl, hcp, hb7⟩
    obtain ⟨E3, g3, E4, g4, E5, g5, rfl, rfl, rfl⟩ := hcp.forms
    rw [show (some t).getD T.zero = t from rfl] at hcp ⊢
    have hz7 := hb7.size
    have ST7 := Lib.hid (ST6.out.next hb7)
    have HA7 := Lib.hid (HA6.out.later hb7.size fun k _ hk => hb7.block k hk)
    have HBA7 := Lib.hid (HBA6.out.same (hb7.block _ (by omega)))
    have HE7 := Lib.hid hcp
    clear hcp hb7 hpath ST6 HA6 HBA6
    obtain ⟨x0, x1, x2, x3, x4, x5⟩ := ST7.out.bi.cells
    have l0 : w3.heap.size + 1 + 1 + 1 + 1 < w7.heap.size := by omega
    have l1 : w3.heap.size + 1 + 1 + 1 + 1 < w7.heap.size + 1 := by omega
    go_wp2_with fail
    obtain ⟨w8, hw8⟩ : ∃ w8, w8 = (w7.alloc (.cells #[.int .i64 t.kind, .int .i64 t.lo, .int .i64 t.hi, .slice E3 t.names.length g3, .slice E4 t.fields.length g4, .slice E5 t.of.length g5] 26)).alloc (.cells #[.string ⟨#[49]⟩] 9) := ⟨_, rfl⟩
    have hz8 : w8.heap.size = w7.heap.size + 1 + 1 := by rw [hw8]; simp
    have hb8 : Below w7.heap.size w7 w8 := by rw [hw8]; exact ((Below.refl _ _).alloc (Nat.le_refl _) _).alloc (by simp) _
    have hpath : w8.heap[w7.heap.size + 1]? = some (.cells #[.string ⟨#[49]⟩] 9 (0, 0)) := by rw [hw8]; exact heap_at _ (by simp)
    have HBE8 : Hid (Box6 w8 w7.heap.size (.int .i64 t.kind) (.int .i64 t.lo) (.int .i64 t.hi) (.slice E3 t.names.length g3) (.slice E4 t.fields.length g4) (.slice E5 t.of.length g5)) := by rw [hw8]; exact (Box6.new w7 _ _ _ _ _ _).alloc _
    have ST8 := Lib.hid (ST7.out.next hb8)
    have HA8 := Lib.hid (HA7.out.later hb8.size fun k _ hk => hb8.block k hk)
    have HE8 := Lib.hid (HE7.out.later hb8.size fun k _ hk => hb8.block k hk)
    have HBA8 := Lib.hid (HBA7.out.same (hb8.block _ (by omega)))
    rw [← hw8]
    clear hw8 hb8 x0 x1 x2 x3 x4 x5 l0 l1 ST7 HA7 HE7 HBA7
    refine (tat_any (t := listOf t) (ps := [⟨#[49]⟩]) (listOf_fit HFIT.out) (by rw [listOf_depth]; omega) (by simp) (Nat.le_refl _) ST8.out.lv (one_way hpath (by omega))).mono ?_
    rw [listOf_not]
    rintro e w9 ⟨y3, y4, y5, rfl, hcp, hb9⟩
    obtain ⟨E6, g6, E7, g7, E8, g8, rfl, rfl, rfl⟩ := hcp.forms
    have hz9 := hb9.size
    have ST9 := Lib.hid (ST8.out.next hb9)
    have HA9 := Lib.hid (HA8.out.later hb9.size fun k _ hk => hb9.block k hk)
    have HE9 := Lib.hid (HE8.out.later hb9.size fun k _ hk => hb9.block k hk)
    have HBA9 := Lib.hid (HBA8.out.same (hb9.block _ (by omega)))
    have HBE9 := Lib.hid (HBE8.out.same (hb9.block _ (by omega)))
    clear hcp hb9 hpath ST8 HA8 HE8 HBA8 HBE8
    go_wp2_with fail
    obtain ⟨w10, hw10⟩ : ∃ w10, w10 = w9.alloc (.cells #[.int .i64 T.zero.kind, .int .i64 T.zero.lo, .int .i64 T.zero.hi, .slice E6 T.zero.names.length g6, .slice E7 T.zero.fields.length g7, .slice E8 T.zero.of.length g8] 26) := ⟨_, rfl⟩
    have hz10 : w9.heap.size + 1 ≤ w10.heap.size := by rw [hw10]; simp
    have hb10 : Below w9.heap.size w9 w10 := by rw [hw10]; exact (Below.refl _ _).alloc (Nat.le_refl _) _
    have ST10 := Lib.hid (ST9.out.next hb10)
    have HA10 := Lib.hid (HA9.out.later hb10.size fun k _ hk => hb10.block k hk)
    have HE10 := Lib.hid (HE9.out.later hb10.size fun k _ hk => hb10.block k hk)
    have HBA10 := Lib.hid (HBA9.out.same (hb10.block _ (by omega)))
    have HBE10 := Lib.hid (HBE9.out.same (hb10.block _ (by omega)))
    rw [← hw10]
    clear hw10 hb10 ST9 HA9 HE9 HBA9 HBE9
    refine wp_region_quiet (C := fun w' => Below w10.heap.size w10 w') (by kernel_rfl) (by kernel_rfl) ((Below.refl _ _).drew) ?_
    dsimp only
    -- region
    go_big_quiet_want
    refine quiet_load6 (b := w3.heap.size) _ rfl rfl (fun wq hq => (ST10.out.next hq).bc) ?_
    simp only [Act.put, List.setIfInBounds_toArray, List.set_cons_zero, List.set_cons_succ]
    go_big_quiet_on
    go_big_quiet_want
    refine quiet_load6 (b := w.heap.size) _ rfl rfl (fun wq hq => (ST10.out.next hq).bx) ?_
    simp only [Act.put, List.setIfInBounds_toArray, List.set_cons_zero, List.set_cons_succ]
    go_big_quiet_on
    go_big_quiet_want
    go_big_quiet_op
    apply Exists.intro
    refine ⟨fun wq hq => ?_, ?_⟩
    · go_at_call 20
      exact (tsame_self (t := t) (B := wq.heap.size) HFIT.out (Nat.le_refl _) ((ST10.out.next hq).cv) ((ST10.out.next hq).tv)).mono fun e w'' h => ⟨h.1, hq.trans (h.2.mono hq.size)⟩
    go_big_quiet_on
    repeat (first
      | go_big_quiet_skip
      | (go_big_quiet_want; go_big_quiet_op; go_big_quiet_on)
      | (go_big_quiet_want; go_big_quiet_op; apply Exists.intro; refine ⟨fun _ _ => rfl, ?_⟩; go_big_quiet_on))
    go_big_quiet_want
    refine quiet_load6 (b := w5.heap.size) _ rfl rfl (fun wq hq => HBA10.out.same (hq.block _ (by omega))) ?_
    simp only [Act.put, List.setIfInBounds_toArray, List.set_cons_zero, List.set_cons_succ]
    go_big_quiet_on
    go_big_quiet_want
    refine quiet_load6 (b := w.heap.size) _ rfl rfl (fun wq hq => (ST10.out.next hq).bx) ?_
    simp only [Act.put, List.setIfInBounds_toArray, List.set_cons_zero, List.set_cons_succ]
    go_big_quiet_on
    go_big_quiet_want
    go_big_quiet_op
    apply Exists.intro
    refine ⟨fun wq hq => ?_, ?_⟩
    · go_at_call 20
      exact (tsame_self (t := t) (B := wq.heap.size) HFIT.out (Nat.le_refl _) (⟨_, _, _, _, _, _, rfl, (HA10.out.later hq.size fun k _ hk => hq.block k hk).typeIn⟩) ((ST10.out.next hq).tv)).mono fun e w'' h => ⟨h.1, hq.trans (h.2.mono hq.size)⟩
    go_big_quiet_on
    repeat (first
      | go_big_quiet_skip
      | (go_big_quiet_want; go_big_quiet_op; go_big_quiet_on)
      | (go_big_quiet_want; go_big_quiet_op; apply Exists.intro; refine ⟨fun _ _ => rfl, ?_⟩; go_big_quiet_on))
    go_big_quiet_want
    refine quiet_load6 (b := w7.heap.size) _ rfl rfl (fun wq hq => HBE10.out.same (hq.block _ (by omega))) ?_
    simp only [Act.put, List.setIfInBounds_toArray, List.set_cons_zero, List.set_cons_succ]
    go_big_quiet_on
    go_big_quiet_want
    refine quiet_load6 (b := w.heap.size) _ rfl rfl (fun wq hq => (ST10.out.next hq).bx) ?_
    simp only [Act.put, List.setIfInBounds_toArray, List.set_cons_zero, List.set_cons_succ]
    go_big_quiet_on
    go_big_quiet_want
    go_big_quiet_op
    apply Exists.intro
    refine ⟨fun wq hq => ?_, ?_⟩
    · go_at_call 20
      exact (tsame_self (t := t) (B := wq.heap.size) HFIT.out (Nat.le_refl _) (⟨_, _, _, _, _, _, rfl, (HE10.out.later hq.size fun k _ hk => hq.block k hk).typeIn⟩) ((ST10.out.next hq).tv)).mono fun e w'' h => ⟨h.1, hq.trans (h.2.mono hq.size)⟩
    go_big_quiet_on
    repeat (first
      | go_big_quiet_skip
      | (go_big_quiet_want; go_big_quiet_op; go_big_quiet_on)
      | (go_big_quiet_want; go_big_quiet_op; apply Exists.intro; refine ⟨fun _ _ => rfl, ?_⟩; go_big_quiet_on))
    go_big_quiet_want
    refine quiet_load6 (b := w3.heap.size + 1 + 1) _ rfl rfl (fun wq hq => (ST10.out.next hq).bd) ?_
    simp only [Act.put, List.setIfInBounds_toArray, List.set_cons_zero, List.set_cons_succ]
    go_big_quiet_on
    go_big_quiet_want
    go_big_quiet_op
    apply Exists.intro
    refine ⟨fun wq hq => ?_, ?_⟩
    · go_at_call 16
      exact (tsize_dict (t := t) (B := wq.heap.size) (by omega) (by omega) HFIT.out (Nat.le_refl _) ((ST10.out.next hq).dv)).mono fun e w'' h => ⟨h.1, hq.trans (h.2.mono hq.size)⟩
    go_big_quiet_on
    go_big_quiet_want
    refine quiet_load6 (b := w.heap.size) _ rfl rfl (fun wq hq => (ST10.out.next hq).bx) ?_
    simp only [Act.put, List.setIfInBounds_toArray, List.set_cons_zero, List.set_cons_succ]
    go_big_quiet_on
    go_big_quiet_want
    go_big_quiet_op
    apply Exists.intro
    refine ⟨fun wq hq => ?_, ?_⟩
    · go_at_call 16
      exact (tsize_any (t := t) (B := wq.heap.size) (by omega) (by omega) HFIT.out (Nat.le_refl _) ((ST10.out.next hq).tv)).mono fun e w'' h => ⟨h.1, hq.trans (h.2.mono hq.size)⟩
    go_big_quiet_on
    repeat (first
      | go_big_quiet_skip
      | (go_big_quiet_want; go_big_quiet_op; go_big_quiet_on)
      | (go_big_quiet_want; go_big_quiet_op; apply Exists.intro; refine ⟨fun _ _ => rfl, ?_⟩; go_big_quiet_on))
    go_big_quiet_want
    refine quiet_load6 (b := w3.heap.size + 1 + 1 + 1 + 1) _ rfl rfl (fun wq hq => (ST10.out.next hq).bi) ?_
    simp only [Act.put, List.setIfInBounds_toArray, List.set_cons_zero, List.set_cons_succ]
    go_big_quiet_on
    go_big_quiet_want
    go_big_quiet_op
    apply Exists.intro
    refine ⟨fun wq hq => ?_, ?_⟩
    · go_at_call 18
      exact (tdepth_list (t := t) (B := wq.heap.size) (by omega) (by omega) HFIT.out (Nat.le_refl _) ((ST10.out.next hq).lv)).mono fun e w'' h => ⟨h.1, hq.trans (h.2.mono hq.size)⟩
    go_big_quiet_on
    go_big_quiet_want
    refine quiet_load6 (b := w.heap.size) _ rfl rfl (fun wq hq => (ST10.out.next hq).bx) ?_
    simp only [Act.put, List.setIfInBounds_toArray, List.set_cons_zero, List.set_cons_succ]
    go_big_quiet_on
    go_big_quiet_want
    go_big_quiet_op
    apply Exists.intro
    refine ⟨fun wq hq => ?_, ?_⟩
    · go_at_call 18
      exact (tdepth_any (t := t) (B := wq.heap.size) (by omega) (by omega) HFIT.out (Nat.le_refl _) ((ST10.out.next hq).tv)).mono fun e w'' h => ⟨h.1, hq.trans (h.2.mono hq.size)⟩
    go_big_quiet_on
    repeat (first
      | go_big_quiet_skip
      | (go_big_quiet_want; go_big_quiet_op; go_big_quiet_on)
      | (go_big_quiet_want; go_big_quiet_op; apply Exists.intro; refine ⟨fun _ _ => rfl, ?_⟩; go_big_quiet_on))
    refine wpQuiet_nil ?_
    intro wq hq
    have STQ := Lib.hid (ST10.out.next hq)
    have hzq := hq.size
    clear hq ST10 HA10 HE10 HBA10 HBE10
    have hcn : w3.heap.size < wq.heap.size := by omega
    have hxn : w.heap.size < wq.heap.size := by omega
    obtain ⟨q0, q1, q2, q3, q4, q5⟩ := STQ.out.bc.cells
    obtain ⟨x0, x1, x2, x3, x4, x5⟩ := STQ.out.bx.cells
    go_wp2_with fail
    go_loopw [18] (fun i wr => i = .int .i64 0 ∧ wr = wq) (fun _ _ => 0)
    case atStart => exact ⟨rfl, rfl⟩
    case round =>
      obtain ⟨rfl, rfl⟩ := hrel
      go_wp2_with fail
      go_ret
      exact ⟨rfl, STQ.out.bl⟩
  have hf1 : (0 : Int) < (t.fields.length : Int) := by omega
  obtain ⟨fb, fo, rfl, _, hfc⟩ : ∃ b off, A4 = some ⟨b, off, none⟩ ∧ b < w.heap.size ∧ w.cell? ⟨b, off, none⟩ = some (.string (t.fields[0]).name) := by
    obtain ⟨A', cc, e, _, hc⟩ := HT.out.fields_
    injection e with e1 _ e3
    subst e1
    obtain ⟨b, off, rfl, hbb, hc⟩ := hc hf0
    have := (FieldsIn.at_ hc 0 hf0).1
    simp only [Nat.zero_mul, Nat.add_zero] at this
    exact ⟨b, off, rfl, hbb, this⟩
  have hfc3 := (HC3.out.cell (p := ⟨fb, fo, none⟩) (by assumption)).trans hfc
  have k0 : fb < w3.heap.size := by omega
  have k1 : fb < w3.heap.size + 1 := by omega
  go_wp2_with fail
  obtain ⟨w4, hw4⟩ : ∃ w4, w4 = ((((((w3.alloc (.cells #[.int .i64 t.kind, .int .i64 t.lo, .int .i64 t.hi, .slice B3 t.names.length d3, .slice B4 t.fields.length d4, .slice B5 t.of.length d5] 26)).alloc
    (.cells #[.int .i64 t.kind, .int .i64 t.lo, .int .i64 t.hi, .slice A3 t.names.length c3, .slice (some ⟨fb, fo, none⟩) t.fields.length c4, .slice A5 t.of.length c5] 26)).alloc
    (.cells #[.int .i64 2, .int .i64 0, .int .i64 3, .slice none 0 0, .slice none 0 0, .slice (some ⟨w3.heap.size + 1, 0, none⟩) 1 1] 26)).alloc
    (.cells #[.int .i64 t.kind, .int .i64 t.lo, .int .i64 t.hi, .slice A3 t.names.length c3, .slice (some ⟨fb, fo, none⟩) t.fields.length c4, .slice A5 t.of.length c5] 26)).alloc
    (.cells #[.int .i64 3, .int .i64 0, .int .i64 3, .slice none 0 0, .slice none 0 0, .slice (some ⟨w3.heap.size + 1 + 1 + 1, 0, none⟩) 1 1] 26)).alloc
    (.cells #[.string s] 9)) := ⟨_, rfl⟩
  have hz4 : w4.heap.size = w3.heap.size + 1 + 1 + 1 + 1 + 1 + 1 := by rw [hw4]; simp
  have hb34 : Below w3.heap.size w3 w4 := by
    rw [hw4]
    exact ((((((Below.refl _ _).alloc (Nat.le_refl _) _).alloc (by simp) _).alloc (by simp; omega) _).alloc (by simp; omega) _).alloc (by simp; omega) _).alloc (by simp; omega) _
  have hpath : w4.heap[w3.heap.size + 1 + 1 + 1 + 1 + 1]? = some (.cells #[.string s] 9 (0, 0)) := by
    rw [hw4]
    exact heap_at _ (by simp)
  have ST4 : Hid (CopSt w w3 w4 w3.heap.size w2.heap.size t A3 (some ⟨fb, fo, none⟩) A5 B3 B4 B5 c3 c4 c5 d3 d4 d5) := by
    refine ⟨HC3.out.trans (hb34.mono HC3.out.size), fun k hk => hb34.block k hk, hxl2, hz3, by omega, HT.out, HX3.out.same (hb34.block _ l0), ?_, ?_, ?_, ?_, ?_, HY3.out.later hb34.size fun k _ hk => hb34.block k hk⟩
    all_goals rw [hw4]
    · exact (((((Box6.new w3 _ _ _ _ _ _).alloc _).alloc _).alloc _).alloc _).alloc _
    · exact ((((Box6.new' (by simp) _ _ _ _ _ _).alloc _).alloc _).alloc _).alloc _
    · exact (((Box6.new' (by simp) _ _ _ _ _ _).alloc _).alloc _).alloc _
    · exact ((Box6.new' (by simp) _ _ _ _ _ _).alloc _).alloc _
    · exact (Box6.new' (by simp) _ _ _ _ _ _).alloc _
  rw [← hw4]
  clear hw4 hb34 x0 x1 x2 x3 x4 x5 l1 l2 l3 l4 l5 HX3
  refine (tat_any (t := dictOf t) (ps := [s]) (dictOf_fit HFIT.out) (by rw [dictOf_depth]; omega) (by simp) (Nat.le_refl _) ST4.out.dv (one_way hpath (by omega))).mono ?_
  rw [dictOf_at]
  rintro e w5 ⟨y3, y4, y5, rfl, hcp, hb5⟩
  obtain ⟨D3, e3, D4, e4, D5, e5, rfl, rfl, rfl⟩ := hcp.forms
  rw [show (some t).getD T.zero = t from rfl] at hcp ⊢
  have hz5 := hb5.size
  have ST5 := Lib.hid (ST4.out.next hb5)
  have HA5 := Lib.hid hcp
  clear hcp hb5 hpath
  obtain ⟨x0, x1, x2, x3, x4, x5⟩ := ST5.out.bi.cells
  have l0 : w3.heap.size + 1 + 1 + 1 + 1 < w5.heap.size := by omega
  have l1 : w3.heap.size + 1 + 1 + 1 + 1 < w5.heap.size + 1 := by omega
  go_wp2_with fail
  obtain ⟨w6, hw6⟩ : ∃ w6, w6 = (w5.alloc (.cells #[.int .i64 t.kind, .int .i64 t.lo, .int .i64 t.hi, .slice D3 t.names.length e3, .slice D4 t.fields.length e4, .slice D5 t.of.length e5] 26)).alloc (.cells #[.string ⟨#[48]⟩] 9) := ⟨_, rfl⟩
  have hz6 : w6.heap.size = w5.heap.size + 1 + 1 := by rw [hw6]; simp
  have hb6 : Below w5.heap.size w5 w6 := by rw [hw6]; exact ((Below.refl _ _).alloc (Nat.le_refl _) _).alloc (by simp) _
  have hpath : w6.heap[w5.heap.size + 1]? = some (.cells #[.string ⟨#[48]⟩] 9 (0, 0)) := by rw [hw6]; exact heap_at _ (by simp)
  have HBA6 : Hid (Box6 w6 w5.heap.size (.int .i64 t.kind) (.int .i64 t.lo) (.int .i64 t.hi) (.slice D3 t.names.length e3) (.slice D4 t.fields.length e4) (.slice D5 t.of.length e5)) := by rw [hw6]; exact (Box6.new w5 _ _ _ _ _ _).alloc _
  have ST6 := Lib.hid (ST5.out.next hb6)
  have HA6 := Lib.hid (HA5.out.later hb6.size fun k _ hk => hb6.block k hk)
  rw [← hw6]
  clear hw6 hb6 x0 x1 x2 x3 x4 x5 l0 l1 ST5 HA5 ST4
  refine (tat_any (t := listOf t) (ps := [⟨#[48]⟩]) (listOf_fit HFIT.out) (by rw [listOf_depth]; omega) (by simp) (Nat.le_refl _) ST6.out.lv (one_way hpath (by omega))).mono ?_
  rw [listOf_at]
  rintro e w7 ⟨y3, y4, y5, rfl, hcp, hb7⟩
  obtain ⟨E3, g3, E4, g4, E5, g5, rfl, rfl, rfl⟩ := hcp.forms
  rw [show (some t).getD T.zero = t from rfl] at hcp ⊢
  have hz7 := hb7.size
  have ST7 := Lib.hid (ST6.out.next hb7)
  have HA7 := Lib.hid (HA6.out.later hb7.size fun k _ hk => hb7.block k hk)
  have HBA7 := Lib.hid (HBA6.out.same (hb7.block _ (by omega)))
  have HE7 := Lib.hid hcp
  clear hcp hb7 hpath ST6 HA6 HBA6
  obtain ⟨x0, x1, x2, x3, x4, x5⟩ := ST7.out.bi.cells
  have l0 : w3.heap.size + 1 + 1 + 1 + 1 < w7.heap.size := by omega
  have l1 : w3.heap.size + 1 + 1 + 1 + 1 < w7.heap.size + 1 := by omega
  go_wp2_with fail
  obtain ⟨w8, hw8⟩ : ∃ w8, w8 = (w7.alloc (.cells #[.int .i64 t.kind, .int .i64 t.lo, .int .i64 t.hi, .slice E3 t.names.length g3, .slice E4 t.fields.length g4, .slice E5 t.of.length g5] 26)).alloc (.cells #[.string ⟨#[49]⟩] 9) := ⟨_, rfl⟩
  have hz8 : w8.heap.size = w7.heap.size + 1 + 1 := by rw [hw8]; simp
  have hb8 : Below w7.heap.size w7 w8 := by rw [hw8]; exact ((Below.refl _ _).alloc (Nat.le_refl _) _).alloc (by simp) _
  have hpath : w8.heap[w7.heap.size + 1]? = some (.cells #[.string ⟨#[49]⟩] 9 (0, 0)) := by rw [hw8]; exact heap_at _ (by simp)
  have HBE8 : Hid (Box6 w8 w7.heap.size (.int .i64 t.kind) (.int .i64 t.lo) (.int .i64 t.hi) (.slice E3 t.names.length g3) (.slice E4 t.fields.length g4) (.slice E5 t.of.length g5)) := by rw [hw8]; exact (Box6.new w7 _ _ _ _ _ _).alloc _
  have ST8 := Lib.hid (ST7.out.next hb8)
  have HA8 := Lib.hid (HA7.out.later hb8.size fun k _ hk => hb8.block k hk)
  have HE8 := Lib.hid (HE7.out.later hb8.size fun k _ hk => hb8.block k hk)
  have HBA8 := Lib.hid (HBA7.out.same (hb8.block _ (by omega)))
  rw [← hw8]
  clear hw8 hb8 x0 x1 x2 x3 x4 x5 l0 l1 ST7 HA7 HE7 HBA7
  refine (tat_any (t := listOf t) (ps := [⟨#[49]⟩]) (listOf_fit HFIT.out) (by rw [listOf_depth]; omega) (by simp) (Nat.le_refl _) ST8.out.lv (one_way hpath (by omega))).mono ?_
  rw [listOf_not]
  rintro e w9 ⟨y3, y4, y5, rfl, hcp, hb9⟩
  obtain ⟨E6, g6, E7, g7, E8, g8, rfl, rfl, rfl⟩ := hcp.forms
  have hz9 := hb9.size
  have ST9 := Lib.hid (ST8.out.next hb9)
  have HA9 := Lib.hid (HA8.out.later hb9.size fun k _ hk => hb9.block k hk)
  have HE9 := Lib.hid (HE8.out.later hb9.size fun k _ hk => hb9.block k hk)
  have HBA9 := Lib.hid (HBA8.out.same (hb9.block _ (by omega)))
  have HBE9 := Lib.hid (HBE8.out.same (hb9.block _ (by omega)))
  clear hcp hb9 hpath ST8 HA8 HE8 HBA8 HBE8
  go_wp2_with fail
  obtain ⟨w10, hw10⟩ : ∃ w10, w10 = w9.alloc (.cells #[.int .i64 T.zero.kind, .int .i64 T.zero.lo, .int .i64 T.zero.hi, .slice E6 T.zero.names.length g6, .slice E7 T.zero.fields.length g7, .slice E8 T.zero.of.length g8] 26) := ⟨_, rfl⟩
  have hz10 : w9.heap.size + 1 ≤ w10.heap.size := by rw [hw10]; simp
  have hb10 : Below w9.heap.size w9 w10 := by rw [hw10]; exact (Below.refl _ _).alloc (Nat.le_refl _) _
  have ST10 := Lib.hid (ST9.out.next hb10)
  have HA10 := Lib.hid (HA9.out.later hb10.size fun k _ hk => hb10.block k hk)
  have HE10 := Lib.hid (HE9.out.later hb10.size fun k _ hk => hb10.block k hk)
  have HBA10 := Lib.hid (HBA9.out.same (hb10.block _ (by omega)))
  have HBE10 := Lib.hid (HBE9.out.same (hb10.block _ (by omega)))
  rw [← hw10]
  clear hw10 hb10 ST9 HA9 HE9 HBA9 HBE9
  refine wp_region_quiet (C := fun w' => Below w10.heap.size w10 w') (by kernel_rfl) (by kernel_rfl) ((Below.refl _ _).drew) ?_
  dsimp only
  -- region
  go_big_quiet_want
  refine quiet_load6 (b := w3.heap.size) _ rfl rfl (fun wq hq => (ST10.out.next hq).bc) ?_
  simp only [Act.put, List.setIfInBounds_toArray, List.set_cons_zero, List.set_cons_succ]
  go_big_quiet_on
  go_big_quiet_want
  refine quiet_load6 (b := w.heap.size) _ rfl rfl (fun wq hq => (ST10.out.next hq).bx) ?_
  simp only [Act.put, List.setIfInBounds_toArray, List.set_cons_zero, List.set_cons_succ]
  go_big_quiet_on
  go_big_quiet_want
  go_big_quiet_op
  apply Exists.intro
  refine ⟨fun wq hq => ?_, ?_⟩
  · go_at_call 20
    exact (tsame_self (t := t) (B := wq.heap.size) HFIT.out (Nat.le_refl _) ((ST10.out.next hq).cv) ((ST10.out.next hq).tv)).mono fun e w'' h => ⟨h.1, hq.trans (h.2.mono hq.size)⟩
  go_big_quiet_on
  repeat (first
    | go_big_quiet_skip
    | (go_big_quiet_want; go_big_quiet_op; go_big_quiet_on)
    | (go_big_quiet_want; go_big_quiet_op; apply Exists.intro; refine ⟨fun _ _ => rfl, ?_⟩; go_big_quiet_on))
  go_big_quiet_want
  refine quiet_load6 (b := w5.heap.size) _ rfl rfl (fun wq hq => HBA10.out.same (hq.block _ (by omega))) ?_
  simp only [Act.put, List.setIfInBounds_toArray, List.set_cons_zero, List.set_cons_succ]
  go_big_quiet_on
  go_big_quiet_want
  refine quiet_load6 (b := w.heap.size) _ rfl rfl (fun wq hq => (ST10.out.next hq).bx) ?_
  simp only [Act.put, List.setIfInBounds_toArray, List.set_cons_zero, List.set_cons_succ]
  go_big_quiet_on
  go_big_quiet_want
  go_big_quiet_op
  apply Exists.intro
  refine ⟨fun wq hq => ?_, ?_⟩
  · go_at_call 20
    exact (tsame_self (t := t) (B := wq.heap.size) HFIT.out (Nat.le_refl _) (⟨_, _, _, _, _, _, rfl, (HA10.out.later hq.size fun k _ hk => hq.block k hk).typeIn⟩) ((ST10.out.next hq).tv)).mono fun e w'' h => ⟨h.1, hq.trans (h.2.mono hq.size)⟩
  go_big_quiet_on
  repeat (first
    | go_big_quiet_skip
    | (go_big_quiet_want; go_big_quiet_op; go_big_quiet_on)
    | (go_big_quiet_want; go_big_quiet_op; apply Exists.intro; refine ⟨fun _ _ => rfl, ?_⟩; go_big_quiet_on))
  go_big_quiet_want
  refine quiet_load6 (b := w7.heap.size) _ rfl rfl (fun wq hq => HBE10.out.same (hq.block _ (by omega))) ?_
  simp only [Act.put, List.setIfInBounds_toArray, List.set_cons_zero, List.set_cons_succ]
  go_big_quiet_on
  go_big_quiet_want
  refine quiet_load6 (b := w.heap.size) _ rfl rfl (fun wq hq => (ST10.out.next hq).bx) ?_
  simp only [Act.put, List.setIfInBounds_toArray, List.set_cons_zero, List.set_cons_succ]
  go_big_quiet_on
  go_big_quiet_want
  go_big_quiet_op
  apply Exists.intro
  refine ⟨fun wq hq => ?_, ?_⟩
  · go_at_call 20
    exact (tsame_self (t := t) (B := wq.heap.size) HFIT.out (Nat.le_refl _) (⟨_, _, _, _, _, _, rfl, (HE10.out.later hq.size fun k _ hk => hq.block k hk).typeIn⟩) ((ST10.out.next hq).tv)).mono fun e w'' h => ⟨h.1, hq.trans (h.2.mono hq.size)⟩
  go_big_quiet_on
  repeat (first
    | go_big_quiet_skip
    | (go_big_quiet_want; go_big_quiet_op; go_big_quiet_on)
    | (go_big_quiet_want; go_big_quiet_op; apply Exists.intro; refine ⟨fun _ _ => rfl, ?_⟩; go_big_quiet_on))
  go_big_quiet_want
  refine quiet_load6 (b := w3.heap.size + 1 + 1) _ rfl rfl (fun wq hq => (ST10.out.next hq).bd) ?_
  simp only [Act.put, List.setIfInBounds_toArray, List.set_cons_zero, List.set_cons_succ]
  go_big_quiet_on
  go_big_quiet_want
  go_big_quiet_op
  apply Exists.intro
  refine ⟨fun wq hq => ?_, ?_⟩
  · go_at_call 16
    exact (tsize_dict (t := t) (B := wq.heap.size) (by omega) (by omega) HFIT.out (Nat.le_refl _) ((ST10.out.next hq).dv)).mono fun e w'' h => ⟨h.1, hq.trans (h.2.mono hq.size)⟩
  go_big_quiet_on
  go_big_quiet_want
  refine quiet_load6 (b := w.heap.size) _ rfl rfl (fun wq hq => (ST10.out.next hq).bx) ?_
  simp only [Act.put, List.setIfInBounds_toArray, List.set_cons_zero, List.set_cons_succ]
  go_big_quiet_on
  go_big_quiet_want
  go_big_quiet_op
  apply Exists.intro
  refine ⟨fun wq hq => ?_, ?_⟩
  · go_at_call 16
    exact (tsize_any (t := t) (B := wq.heap.size) (by omega) (by omega) HFIT.out (Nat.le_refl _) ((ST10.out.next hq).tv)).mono fun e w'' h => ⟨h.1, hq.trans (h.2.mono hq.size)⟩
  go_big_quiet_on
  repeat (first
    | go_big_quiet_skip
    | (go_big_quiet_want; go_big_quiet_op; go_big_quiet_on)
    | (go_big_quiet_want; go_big_quiet_op; apply Exists.intro; refine ⟨fun _ _ => rfl, ?_⟩; go_big_quiet_on))
  go_big_quiet_want
  refine quiet_load6 (b := w3.heap.size + 1 + 1 + 1 + 1) _ rfl rfl (fun wq hq => (ST10.out.next hq).bi) ?_
  simp only [Act.put, List.setIfInBounds_toArray, List.set_cons_zero, List.set_cons_succ]
  go_big_quiet_on
  go_big_quiet_want
  go_big_quiet_op
  apply Exists.intro
  refine ⟨fun wq hq => ?_, ?_⟩
  · go_at_call 18
    exact (tdepth_list (t := t) (B := wq.heap.size) (by omega) (by omega) HFIT.out (Nat.le_refl _) ((ST10.out.next hq).lv)).mono fun e w'' h => ⟨h.1, hq.trans (h.2.mono hq.size)⟩
  go_big_quiet_on
  go_big_quiet_want
  refine quiet_load6 (b := w.heap.size) _ rfl rfl (fun wq hq => (ST10.out.next hq).bx) ?_
  simp only [Act.put, List.setIfInBounds_toArray, List.set_cons_zero, List.set_cons_succ]
  go_big_quiet_on
  go_big_quiet_want
  go_big_quiet_op
  apply Exists.intro
  refine ⟨fun wq hq => ?_, ?_⟩
  · go_at_call 18
    exact (tdepth_any (t := t) (B := wq.heap.size) (by omega) (by omega) HFIT.out (Nat.le_refl _) ((ST10.out.next hq).tv)).mono fun e w'' h => ⟨h.1, hq.trans (h.2.mono hq.size)⟩
  go_big_quiet_on
  repeat (first
    | go_big_quiet_skip
    | (go_big_quiet_want; go_big_quiet_op; go_big_quiet_on)
    | (go_big_quiet_want; go_big_quiet_op; apply Exists.intro; refine ⟨fun _ _ => rfl, ?_⟩; go_big_quiet_on))
  refine wpQuiet_nil ?_
  intro wq hq
  have STQ := Lib.hid (ST10.out.next hq)
  have hzq := hq.size
  clear hq ST10 HA10 HE10 HBA10 HBE10
  obtain ⟨g, cur0, rfl, hg0, hg3, hgr, hgs⟩ := HY3.out.row hf0
  have hgn : g < wq.heap.size := by omega
  have hgq : wq.heap[g]? = some (.cells cur0 38 (0, 0)) := (STQ.out.b3 g hg3).trans hgr
  have SP0 : Hid (Spoilt g (t.fields.length * 8) wq wq) := ⟨But.refl _ _, cur0, hgq, hgs⟩
  have hcn : w3.heap.size < wq.heap.size := by omega
  have hxn : w.heap.size < wq.heap.size := by omega
  have hfn : t.fields.length ≤ 60 := by
    have := (partP_iff t).1 (by have := hok2; rw [allP_eq, Bool.and_eq_true] at this; exact this.1)
    exact this.1
  have hfl2 : (t.fields.length : Int) ≤ 60 := by omega
  clear hgq hgr hgs
  go_wp2_with fail
  go_loopw [18] (fun i wr => ∃ k : Nat, k ≤ t.fields.length ∧ i = .int .i64 k ∧ Spoilt g (t.fields.length * 8) wq wr) (fun i _ => t.fields.length - (intOf i).toNat)
  case atStart => exact ⟨0, Nat.zero_le _, rfl, SP0.out⟩
  case round =>
    obtain ⟨k, hk, rfl, hsp⟩ := hrel
    have SP := Lib.hid hsp
    clear hsp
    obtain ⟨q0, q1, q2, q3, q4, q5⟩ := (STQ.out.bc.same (SP.out.but.block _ hcn (by omega))).cells
    have hzr := SP.out.but.size
    have hcr : w3.heap.size < wr.heap.size := by omega
    by_cases hlt : k < t.fields.length
    · have hk0 : (0 : Int) ≤ (k : Int) := by omega
      have hk1 : (k : Int) < (t.fields.length : Int) := by omega
      obtain ⟨z0, m0⟩ := SP.out.cell (i := k * 8) (by omega)
      obtain ⟨z2, m2⟩ := SP.out.cell (i := k * 8 + 2) (by omega)
      have f0 := SP.out.free (k * 8)
      have f2 := SP.out.free (k * 8 + 2)
      have hne : ¬ g = w3.heap.size := by omega
      have hne2 : ¬ w3.heap.size = g := by omega
      go_wp2_with fail
      go_roundw
      case rel => exact ⟨k + 1, by omega, by go_num, (SP.out.set _).set _⟩
      case measure => simp [intOf]; omega
    · have hkl : k = t.fields.length := by omega
      obtain ⟨x0, x1, x2, x3, x4, x5⟩ := (STQ.out.bx.same (SP.out.but.block _ hxn (by omega))).cells
      have hxr : w.heap.size < wr.heap.size := by omega
      have hfr : wr.cell? ⟨fb, fo, none⟩ = some (.string (t.fields[0]).name) := (SP.out.but.cell (p := ⟨fb, fo, none⟩) (by show fb < _; omega) (by show fb ≠ g; omega)).trans ((World.cell?_of_block (w := w3) (STQ.out.b3 fb k0)).trans hfc3)
      have hl0 : ((t.fields.length : Int) == 0) = false := by rw [beq_eq_false_iff_ne]; omega
      go_wp2_with fail
      go_ret
      exact ⟨rfl, STQ.out.bl.trans (SP.out.but.below (by omega) (by omega))⟩
end Go.Proofs.YtcbbocnblgpbbaaDoor
