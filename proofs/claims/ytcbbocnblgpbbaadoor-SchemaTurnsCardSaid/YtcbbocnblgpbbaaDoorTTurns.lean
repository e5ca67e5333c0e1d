/-
  The walk of SchemaTurns.
-/
import Derived.Test.YtcbbocnblgpbbaaDoorRTPut
import Derived.Test.YtcbbocnblgpbbaaDoorTBack0
import Derived.Test.YtcbbocnblgpbbaaDoorRTSame
namespace Go.Proofs.YtcbbocnblgpbbaaDoor
open Go.RowKit
theorem rtsame_self {t : T} {v u : Value} {w : World} {B : Nat} (hf : t.Fit) (hB : B ≤ w.heap.size) (hv : TypeV w B t v) (hu : TypeV w B t u) :
    Calls Tryd.prog 21 #[v, u] w fun e w' => e = .returned (.bool true) ∧ Below w.heap.size w w' := by
  have h := rtsame_any t.depth t t v u w B (Nat.le_refl _) hf hf hB hv hu
  rw [sameT_self] at h
  exact h

theorem drop_fit {t : T} (hf : t.Fit) (i : Nat) : (dropT t i).Fit := by
  obtain ⟨kind, lo, hi, names, fields, of⟩ := t
  simp only [T.Fit] at hf
  obtain ⟨h1, h2, h3, h4, h5, h6⟩ := hf
  have sub : ∀ a : List F, (∀ x ∈ a, T.FitF x) → T.FitsF a := by
    intro a
    induction a with
    | nil => intro _; simp only [T.FitsF]
    | cons x r ih => intro h; simp only [T.FitsF]; exact ⟨h x (by simp), ih fun y hy => h y (by simp [hy])⟩
  have mem : ∀ x ∈ fields, T.FitF x := fun x hx => by
    obtain ⟨i, hi, rfl⟩ := List.mem_iff_getElem.1 hx
    exact h5.at_ hi
  simp only [dropT, T.kind, T.lo, T.hi, T.names, T.fields, T.of, T.Fit]
  refine ⟨h1, by simp; omega, h3, h4, sub _ fun x hx => ?_, h6⟩
  rcases List.mem_append.1 hx with h | h
  · exact mem x (List.mem_of_mem_take h)
  · exact mem x (List.mem_of_mem_drop h)
theorem zero_fit : T.zero.Fit := fit_of_allP _ (by kernel_rfl)
theorem dropV_fit {t : T} (hf : t.Fit) (s : ByteArray) : (dropV t s).1.Fit := by
  unfold dropV
  split
  · split
    · exact zero_fit
    · exact drop_fit hf _
  · exact zero_fit
theorem putV_fit {t : T} {f : F} (hf : t.Fit) (hl : t.fields.length ≤ 5000) (hf2 : f.type.Fit) : (putV t f).1.Fit := by
  by_cases he : (putV t f).2 = 0
  · obtain ⟨_, hn, _, _, h, _⟩ := putV_ok he
    rw [h]
    exact put_fit hf hl (by have := name_size hn; omega) hf2
  · rw [putV_none he]
    exact zero_fit
section
variable {w0 w w' : World} {t : T} {f : F} {A3 A4 A5 B3 B4 B5 : Option Addr} {c3 c4 c5 d3 d4 d5 : Nat}
theorem BackSt.tv0 (h : BackSt w0 w t f A3 A4 A5 B3 B4 B5 c3 c4 c5 d3 d4 d5) : TypeV w w0.heap.size t (.agg #[.int .i64 t.kind, .int .i64 t.lo, .int .i64 t.hi, .slice A3 t.names.length c3, .slice A4 t.fields.length c4, .slice A5 t.of.length c5]) :=
  ⟨_, _, _, _, _, _, rfl, h.ht.keep (Nat.le_refl _) fun _ hp => h.bl.cell hp⟩
theorem BackSt.ffv0 (h : BackSt w0 w t f A3 A4 A5 B3 B4 B5 c3 c4 c5 d3 d4 d5) : FieldV w w0.heap.size f (.agg #[.string f.name, .bool f.opt, .int .i64 f.type.kind, .int .i64 f.type.lo, .int .i64 f.type.hi, .slice B3 f.type.names.length d3, .slice B4 f.type.fields.length d4, .slice B5 f.type.of.length d5]) :=
  ⟨_, _, _, _, _, _, rfl, h.hf.keep (Nat.le_refl _) fun _ hp => h.bl.cell hp⟩
/-- A box, and a type in it that lies below B, and from lo to hi. -/
structure HoldS (w : World) (b B lo hi : Nat) (t : T) (A3 A4 A5 : Option Addr) (c3 c4 c5 : Nat) : Prop where
  box : Box6 w b (.int .i64 t.kind) (.int .i64 t.lo) (.int .i64 t.hi) (.slice A3 t.names.length c3) (.slice A4 t.fields.length c4) (.slice A5 t.of.length c5)
  hB : B ≤ w.heap.size
  hh : hi ≤ w.heap.size
  ts : TypeS w (fun k => k < B ∨ (lo ≤ k ∧ k < hi)) t (.int .i64 t.kind) (.int .i64 t.lo) (.int .i64 t.hi) (.slice A3 t.names.length c3) (.slice A4 t.fields.length c4) (.slice A5 t.of.length c5)
theorem HoldS.new {B lo : Nat} (hB : B ≤ w.heap.size) (h : TypeS w (fun k => k < B ∨ (lo ≤ k ∧ k < w.heap.size)) t (.int .i64 t.kind) (.int .i64 t.lo) (.int .i64 t.hi) (.slice A3 t.names.length c3) (.slice A4 t.fields.length c4) (.slice A5 t.of.length c5)) :
    HoldS (w.alloc (.cells #[.int .i64 t.kind, .int .i64 t.lo, .int .i64 t.hi, .slice A3 t.names.length c3, .slice A4 t.fields.length c4, .slice A5 t.of.length c5] 26)) w.heap.size B lo w.heap.size t A3 A4 A5 c3 c4 c5 :=
  ⟨Box6.new w _ _ _ _ _ _, by simp; omega, by simp, h.keep (fun _ h => h) fun p hp => World.cell?_alloc_lt w _ p (by omega)⟩
theorem HoldS.next {b B lo hi : Nat} (h : HoldS w b B lo hi t A3 A4 A5 c3 c4 c5) (hb : Below w.heap.size w w') : HoldS w' b B lo hi t A3 A4 A5 c3 c4 c5 := by
  have h1 := h.hB; have h2 := h.hh; have h3 := hb.size
  exact ⟨h.box.same (hb.block _ h.box.lt), by omega, by omega, h.ts.keep (fun _ h => h) fun p hp => hb.cell (by omega)⟩
theorem HoldS.but {b B lo hi g : Nat} (h : HoldS w b B lo hi t A3 A4 A5 c3 c4 c5) (hb : But g w w') (h1 : b ≠ g) (h2 : B ≤ g) (h3 : g < lo ∨ hi ≤ g) : HoldS w' b B lo hi t A3 A4 A5 c3 c4 c5 := by
  have z1 := h.hB; have z2 := h.hh; have z3 := hb.size
  exact ⟨h.box.same (hb.block _ h.box.lt h1), by omega, by omega, h.ts.keep (fun _ h => h) fun p hp => hb.cell (by omega) (by omega)⟩
theorem HoldS.v {b B lo hi : Nat} (h : HoldS w b B lo hi t A3 A4 A5 c3 c4 c5) : TypeV w w.heap.size t (.agg #[.int .i64 t.kind, .int .i64 t.lo, .int .i64 t.hi, .slice A3 t.names.length c3, .slice A4 t.fields.length c4, .slice A5 t.of.length c5]) := by
  have z1 := h.hB; have z2 := h.hh
  exact ⟨_, _, _, _, _, _, rfl, h.ts.toIn fun k hk => by omega⟩
theorem BackSt.but {g : Nat} (h : BackSt w0 w t f A3 A4 A5 B3 B4 B5 c3 c4 c5 d3 d4 d5) (hb : But g w w') (hg : w0.heap.size + 1 + 1 ≤ g) : BackSt w0 w' t f A3 A4 A5 B3 B4 B5 c3 c4 c5 d3 d4 d5 := by
  have h1 := h.bl.size; have h2 := h.sz; have h5 := hb.size
  exact ⟨h.bl.trans (hb.below (by omega) (by omega)), by omega, h.ht, h.hf, h.bx.same (hb.block _ (by omega) (by omega)), h.bf.same (hb.block _ (by omega) (by omega))⟩
end

set_option maxHeartbeats 16000000 in
set_option maxRecDepth 100000 in
theorem turns_any {t : T} {f : F} {A3 A4 A5 B3 B4 B5 : Option Addr} {c3 c4 c5 d3 d4 d5 : Nat} {s : ByteArray} {w : World}
    (ht : TypeIn w w.heap.size t (.int .i64 t.kind) (.int .i64 t.lo) (.int .i64 t.hi) (.slice A3 t.names.length c3) (.slice A4 t.fields.length c4) (.slice A5 t.of.length c5))
    (hf : TypeIn w w.heap.size f.type (.int .i64 f.type.kind) (.int .i64 f.type.lo) (.int .i64 f.type.hi) (.slice B3 f.type.names.length d3) (.slice B4 f.type.fields.length d4) (.slice B5 f.type.of.length d5)) :
    Calls Tryd.prog 4 #[.agg #[.int .i64 t.kind, .int .i64 t.lo, .int .i64 t.hi, .slice A3 t.names.length c3, .slice A4 t.fields.length c4, .slice A5 t.of.length c5], .agg #[.string f.name, .bool f.opt, .int .i64 f.type.kind, .int .i64 f.type.lo, .int .i64 f.type.hi, .slice B3 f.type.names.length d3, .slice B4 f.type.fields.length d4, .slice B5 f.type.of.length d5], .string s] w fun e w' => e = .returned (.bool true) ∧ Below w.heap.size w w' := by
  have ST0 := Lib.hid (BackSt.start ht hf)
  clear ht hf
  go_enter Tryd.func4, Tryd.ntmps4
  go_wp2_with fail
  refine (tsmall_any _).mono ?_
  rintro e w1 ⟨rfl, hb1⟩
  have ST1 := Lib.hid (ST0.out.next hb1)
  clear ST0 hb1
  obtain ⟨x0, x1, x2, x3, x4, x5⟩ := ST1.out.bx.cells
  obtain ⟨f0, f1, f2, f3, f4, f5, f6, f7⟩ := ST1.out.bf.cells
  have lx : w.heap.size < w1.heap.size := by have := ST1.out.sz; omega
  have lf : w.heap.size + 1 < w1.heap.size := by have := ST1.out.sz; omega
  have lx1 : w.heap.size < w1.heap.size + 1 := by omega
  have lf1 : w.heap.size + 1 < w1.heap.size + 1 := by omega
  go_wp2_with fail
  refine (few_v (Nat.le_refl _) ST1.out.tv).mono ?_
  rintro e w2 ⟨rfl, hb2⟩
  have ST2 := Lib.hid (ST1.out.next hb2)
  clear x0 x1 x2 x3 x4 x5 f0 f1 f2 f3 f4 f5 f6 f7 lx lf lx1 lf1
  clear ST1 hb2
  obtain ⟨x0, x1, x2, x3, x4, x5⟩ := ST2.out.bx.cells
  obtain ⟨f0, f1, f2, f3, f4, f5, f6, f7⟩ := ST2.out.bf.cells
  have lx : w.heap.size < w2.heap.size := by have := ST2.out.sz; omega
  have lf : w.heap.size + 1 < w2.heap.size := by have := ST2.out.sz; omega
  have lx1 : w.heap.size < w2.heap.size + 1 := by omega
  have lf1 : w.heap.size + 1 < w2.heap.size + 1 := by omega
  go_wp2_with fail
  refine (few_v (Nat.le_refl _) ST2.out.fv).mono ?_
  rintro e w3 ⟨rfl, hb3⟩
  have ST3 := Lib.hid (ST2.out.next hb3)
  clear x0 x1 x2 x3 x4 x5 f0 f1 f2 f3 f4 f5 f6 f7 lx lf lx1 lf1
  clear ST2 hb3
  cases hft : fewB t
  · go_wp2_with fail
    go_ret
    exact ⟨rfl, ST3.out.bl⟩
  cases hff : fewB f.type
  · go_wp2_with fail
    go_ret
    exact ⟨rfl, ST3.out.bl⟩
  have hok : okFew t 20 := by simpa [fewB] using hft
  have hok' : okFew f.type 20 := by simpa [fewB] using hff
  have HFT : Hid t.Fit := fit_of_allP t hok.2.2
  have HFF : Hid f.type.Fit := fit_of_allP f.type hok'.2.2
  have td : t.depth ≤ 20 := hok.1
  have ts : t.size ≤ 199 := hok.2.1
  have fd : f.type.depth ≤ 20 := hok'.1
  have fs : f.type.size ≤ 199 := hok'.2.1
  have tl : t.fields.length ≤ 60 := by
    have := hok.2.2
    rw [allP_eq, Bool.and_eq_true, partP_iff] at this
    exact this.1.1
  have HPF : Hid (nameB f.name = true → (putT t f).Fit) := fun h => put_fit HFT.out (by omega) (by have := name_size h; omega) HFF.out
  have hpfit := putV_fit (f := f) HFT.out (by omega) HFF.out
  have hdfit := dropV_fit HFT.out s
  clear hok hok' hft hff
  obtain ⟨x0, x1, x2, x3, x4, x5⟩ := ST3.out.bx.cells
  obtain ⟨f0, f1, f2, f3, f4, f5, f6, f7⟩ := ST3.out.bf.cells
  have lx : w.heap.size < w3.heap.size := by have := ST3.out.sz; omega
  have lf : w.heap.size + 1 < w3.heap.size := by have := ST3.out.sz; omega
  have lx1 : w.heap.size < w3.heap.size + 1 := by omega
  have lf1 : w.heap.size + 1 < w3.heap.size + 1 := by omega
  go_wp2_with fail
  have hcall := tput_any (t := t) (f := f) (by omega) (by omega) HFT.out (by omega) (by omega) HFF.out HPF.out (Nat.le_refl _) ST3.out.tv ST3.out.ffv
  generalize hpv : putV t f = pv at hcall hpfit
  have HPV := Lib.hid hpv
  have HPFIT := Lib.hid hpfit
  clear hpv hpfit
  refine hcall.mono ?_
  clear hcall
  rintro e w4 ⟨y3, y4, y5, rfl, hcp, hb4⟩
  obtain ⟨C3, g3, C4, g4, C5, g5, rfl, rfl, rfl⟩ := hcp.forms
  have ST4 := Lib.hid (ST3.out.next hb4)
  clear x0 x1 x2 x3 x4 x5 f0 f1 f2 f3 f4 f5 f6 f7 lx lf lx1 lf1
  have hz4 := hb4.size
  have HP4 := Lib.hid hcp
  have HG4 : Hid (0 < pv.1.fields.length → ∃ g cur, C4 = some ⟨g, 0, none⟩ ∧ w3.heap.size ≤ g ∧ g < w4.heap.size ∧ w4.heap[g]? = some (.cells cur 38 (0, 0)) ∧ pv.1.fields.length * 8 ≤ cur.size) := fun h => HP4.out.row h
  have hsz3 : w.heap.size + 1 + 1 ≤ w3.heap.size := ST3.out.sz
  clear hb4 hcp ST3
  obtain ⟨x0, x1, x2, x3, x4, x5⟩ := ST4.out.bx.cells
  obtain ⟨f0, f1, f2, f3, f4, f5, f6, f7⟩ := ST4.out.bf.cells
  have lx : w.heap.size < w4.heap.size := by have := ST4.out.sz; omega
  have lf : w.heap.size + 1 < w4.heap.size := by have := ST4.out.sz; omega
  have lx1 : w.heap.size < w4.heap.size + 1 := by omega
  have lf1 : w.heap.size + 1 < w4.heap.size + 1 := by omega
  go_wp2_with fail
  clear x0 x1 x2 x3 x4 x5 f0 f1 f2 f3 f4 f5 f6 f7 lx lf lx1 lf1
  obtain ⟨w5, hw5⟩ : ∃ w5, w5 = w4.alloc (.cells #[.int .i64 pv.1.kind, .int .i64 pv.1.lo, .int .i64 pv.1.hi, .slice C3 pv.1.names.length g3, .slice C4 pv.1.fields.length g4, .slice C5 pv.1.of.length g5] 26) := ⟨_, rfl⟩
  have hz5 : w5.heap.size = w4.heap.size + 1 := by rw [hw5]; simp
  have hb5 : Below w4.heap.size w4 w5 := by rw [hw5]; exact (Below.refl _ _).alloc (Nat.le_refl _) _
  have HP5 : Hid (Hold w5 w4.heap.size w3.heap.size pv.1 C3 C4 C5 g3 g4 g5) := by rw [hw5]; exact Hold.new HP4.out
  have ST5 := Lib.hid (ST4.out.next hb5)
  have K5 : Hid (∀ k, k < w4.heap.size → w5.heap[k]? = w4.heap[k]?) := fun k hk => hb5.block k hk
  rw [← hw5]
  clear hw5 hb5 HP4 ST4
  have hcall := rtput_any (t := t) (f := f) (by omega) (by omega) HFT.out (by omega) (by omega) HFF.out HPF.out ST5.out.bl.size ST5.out.tv0 ST5.out.ffv0
  rw [HPV.out] at hcall
  refine hcall.mono ?_
  clear hcall
  rintro e w6 ⟨y3, y4, y5, rfl, hts, hb6⟩
  obtain ⟨Q3, q3, Q4, q4, Q5, q5, -, -, -, rfl, rfl, rfl⟩ := hts.forms
  have hz6 := hb6.size
  have ST6 := Lib.hid (ST5.out.next hb6)
  have K6 : Hid (∀ k, k < w4.heap.size → w6.heap[k]? = w4.heap[k]?) := fun k hk => (hb6.block k (by omega)).trans (K5.out k hk)
  clear K5
  have HP6 := Lib.hid (HP5.out.next hb6)
  have HQ6 := Lib.hid hts
  clear hts hb6 ST5 HP5
  obtain ⟨x0, x1, x2, x3, x4, x5⟩ := ST6.out.bx.cells
  obtain ⟨f0, f1, f2, f3, f4, f5, f6, f7⟩ := ST6.out.bf.cells
  have lx : w.heap.size < w6.heap.size := by have := ST6.out.sz; omega
  have lf : w.heap.size + 1 < w6.heap.size := by have := ST6.out.sz; omega
  have lx1 : w.heap.size < w6.heap.size + 1 := by omega
  have lf1 : w.heap.size + 1 < w6.heap.size + 1 := by omega
  go_wp2_with fail
  clear x0 x1 x2 x3 x4 x5 f0 f1 f2 f3 f4 f5 f6 f7 lx lf lx1 lf1
  obtain ⟨w7, hw7⟩ : ∃ w7, w7 = w6.alloc (.cells #[.int .i64 pv.1.kind, .int .i64 pv.1.lo, .int .i64 pv.1.hi, .slice Q3 pv.1.names.length q3, .slice Q4 pv.1.fields.length q4, .slice Q5 pv.1.of.length q5] 26) := ⟨_, rfl⟩
  have hz7 : w7.heap.size = w6.heap.size + 1 := by rw [hw7]; simp
  have hb7 : Below w6.heap.size w6 w7 := by rw [hw7]; exact (Below.refl _ _).alloc (Nat.le_refl _) _
  have HQ7 : Hid (HoldS w7 w6.heap.size w.heap.size w5.heap.size w6.heap.size pv.1 Q3 Q4 Q5 q3 q4 q5) := by rw [hw7]; exact HoldS.new ST6.out.bl.size HQ6.out
  have ST7 := Lib.hid (ST6.out.next hb7)
  have K7 : Hid (∀ k, k < w4.heap.size → w7.heap[k]? = w4.heap[k]?) := fun k hk => (hb7.block k (by omega)).trans (K6.out k hk)
  clear K6
  have HP7 := Lib.hid (HP6.out.next hb7)
  rw [← hw7]
  clear hw7 hb7 HQ6 ST6 HP6
  have hcall := tdrop_any (t := t) (s := s) (by omega) (by omega) HFT.out (Nat.le_refl _) ST7.out.tv
  generalize hdv : dropV t s = dv at hcall hdfit
  have HDV := Lib.hid hdv
  have HDFIT := Lib.hid hdfit
  clear hdv hdfit
  refine hcall.mono ?_
  clear hcall
  rintro e w8 ⟨y3, y4, y5, rfl, hcp, hb8⟩
  obtain ⟨D3, m3, D4, m4, D5, m5, rfl, rfl, rfl⟩ := hcp.forms
  have hz8 := hb8.size
  have ST8 := Lib.hid (ST7.out.next hb8)
  have K8 : Hid (∀ k, k < w4.heap.size → w8.heap[k]? = w4.heap[k]?) := fun k hk => (hb8.block k (by omega)).trans (K7.out k hk)
  clear K7
  have HP8 := Lib.hid (HP7.out.next hb8)
  have HQ8 := Lib.hid (HQ7.out.next hb8)
  have HD8 := Lib.hid hcp
  clear hcp hb8 ST7 HP7 HQ7
  obtain ⟨x0, x1, x2, x3, x4, x5⟩ := ST8.out.bx.cells
  obtain ⟨f0, f1, f2, f3, f4, f5, f6, f7⟩ := ST8.out.bf.cells
  have lx : w.heap.size < w8.heap.size := by have := ST8.out.sz; omega
  have lf : w.heap.size + 1 < w8.heap.size := by have := ST8.out.sz; omega
  have lx1 : w.heap.size < w8.heap.size + 1 := by omega
  have lf1 : w.heap.size + 1 < w8.heap.size + 1 := by omega
  go_wp2_with fail
  clear x0 x1 x2 x3 x4 x5 f0 f1 f2 f3 f4 f5 f6 f7 lx lf lx1 lf1
  obtain ⟨w9, hw9⟩ : ∃ w9, w9 = w8.alloc (.cells #[.int .i64 dv.1.kind, .int .i64 dv.1.lo, .int .i64 dv.1.hi, .slice D3 dv.1.names.length m3, .slice D4 dv.1.fields.length m4, .slice D5 dv.1.of.length m5] 26) := ⟨_, rfl⟩
  have hz9 : w9.heap.size = w8.heap.size + 1 := by rw [hw9]; simp
  have hb9 : Below w8.heap.size w8 w9 := by rw [hw9]; exact (Below.refl _ _).alloc (Nat.le_refl _) _
  have HD9 : Hid (Hold w9 w8.heap.size w7.heap.size dv.1 D3 D4 D5 m3 m4 m5) := by rw [hw9]; exact Hold.new HD8.out
  have ST9 := Lib.hid (ST8.out.next hb9)
  have K9 : Hid (∀ k, k < w4.heap.size → w9.heap[k]? = w4.heap[k]?) := fun k hk => (hb9.block k (by omega)).trans (K8.out k hk)
  clear K8
  have HP9 := Lib.hid (HP8.out.next hb9)
  have HQ9 := Lib.hid (HQ8.out.next hb9)
  rw [← hw9]
  clear hw9 hb9 HD8 ST8 HP8 HQ8
  have hcall := rtdrop_any (t := t) (s := s) (by omega) (by omega) HFT.out ST9.out.bl.size ST9.out.tv0
  rw [HDV.out] at hcall
  refine hcall.mono ?_
  clear hcall
  rintro e w10 ⟨y3, y4, y5, rfl, hts, hb10⟩
  obtain ⟨E3, n3, E4, n4, E5, n5, -, -, -, rfl, rfl, rfl⟩ := hts.forms
  have hz10 := hb10.size
  have ST10 := Lib.hid (ST9.out.next hb10)
  have K10 : Hid (∀ k, k < w4.heap.size → w10.heap[k]? = w4.heap[k]?) := fun k hk => (hb10.block k (by omega)).trans (K9.out k hk)
  clear K9
  have HP10 := Lib.hid (HP9.out.next hb10)
  have HQ10 := Lib.hid (HQ9.out.next hb10)
  have HD10 := Lib.hid (HD9.out.next hb10)
  have HE10 := Lib.hid hts
  clear hts hb10 ST9 HP9 HQ9 HD9
  obtain ⟨p0, p1, p2, p3, p4, p5⟩ := HP10.out.box.cells
  obtain ⟨r0, r1, r2, r3, r4, r5⟩ := HQ10.out.box.cells
  have lp := HP10.out.box.lt
  have lq := HQ10.out.box.lt
  have lp1 : w4.heap.size < w10.heap.size + 1 := by omega
  have lq1 : w6.heap.size < w10.heap.size + 1 := by omega
  go_wp2_with fail
  clear p0 p1 p2 p3 p4 p5 r0 r1 r2 r3 r4 r5 lp lq lp1 lq1
  obtain ⟨w11, hw11⟩ : ∃ w11, w11 = w10.alloc (.cells #[.int .i64 dv.1.kind, .int .i64 dv.1.lo, .int .i64 dv.1.hi, .slice E3 dv.1.names.length n3, .slice E4 dv.1.fields.length n4, .slice E5 dv.1.of.length n5] 26) := ⟨_, rfl⟩
  have hz11 : w11.heap.size = w10.heap.size + 1 := by rw [hw11]; simp
  have hb11 : Below w10.heap.size w10 w11 := by rw [hw11]; exact (Below.refl _ _).alloc (Nat.le_refl _) _
  have HE11 : Hid (HoldS w11 w10.heap.size w.heap.size w9.heap.size w10.heap.size dv.1 E3 E4 E5 n3 n4 n5) := by rw [hw11]; exact HoldS.new ST10.out.bl.size HE10.out
  have ST11 := Lib.hid (ST10.out.next hb11)
  have K11 : Hid (∀ k, k < w4.heap.size → w11.heap[k]? = w4.heap[k]?) := fun k hk => (hb11.block k (by omega)).trans (K10.out k hk)
  clear K10
  have HP11 := Lib.hid (HP10.out.next hb11)
  have HQ11 := Lib.hid (HQ10.out.next hb11)
  have HD11 := Lib.hid (HD10.out.next hb11)
  rw [← hw11]
  clear hw11 hb11 HE10 ST10 HP10 HQ10 HD10
  refine (rtsame_self (t := pv.1) HPFIT.out (Nat.le_refl _) HP11.out.v HQ11.out.v).mono ?_
  rintro e w12 ⟨rfl, hb12⟩
  have hz12 := hb12.size
  have ST12 := Lib.hid (ST11.out.next hb12)
  have K12 : Hid (∀ k, k < w4.heap.size → w12.heap[k]? = w4.heap[k]?) := fun k hk => (hb12.block k (by omega)).trans (K11.out k hk)
  clear K11
  have HP12 := Lib.hid (HP11.out.next hb12)
  have HQ12 := Lib.hid (HQ11.out.next hb12)
  have HD12 := Lib.hid (HD11.out.next hb12)
  have HE12 := Lib.hid (HE11.out.next hb12)
  clear hb12 ST11 HP11 HQ11 HD11 HE11
  have z1 : (pv.2 == pv.2) = true := by simp
  have z2 : (dv.2 == dv.2) = true := by simp
  obtain ⟨p0, p1, p2, p3, p4, p5⟩ := HD12.out.box.cells
  obtain ⟨r0, r1, r2, r3, r4, r5⟩ := HE12.out.box.cells
  have lp := HD12.out.box.lt
  have lq := HE12.out.box.lt
  go_wp2_with fail
  clear p0 p1 p2 p3 p4 p5 r0 r1 r2 r3 r4 r5 lp lq
  refine (rtsame_self (t := dv.1) HDFIT.out (Nat.le_refl _) HD12.out.v HE12.out.v).mono ?_
  rintro e wq ⟨rfl, hbq⟩
  have hzq := hbq.size
  have STq := Lib.hid (ST12.out.next hbq)
  have KQ : Hid (∀ k, k < w4.heap.size → wq.heap[k]? = w4.heap[k]?) := fun k hk => (hbq.block k (by omega)).trans (K12.out k hk)
  clear K12
  have HPq := Lib.hid (HP12.out.next hbq)
  have HQq := Lib.hid (HQ12.out.next hbq)
  clear hbq ST12 HP12 HQ12 HD12 HE12
  obtain ⟨g, hg0, hg1, hrow⟩ : ∃ g, w3.heap.size ≤ g ∧ (g < w4.heap.size ∨ g = wq.heap.size) ∧ (0 < pv.1.fields.length → C4 = some ⟨g, 0, none⟩ ∧ ∃ cur, wq.heap[g]? = some (.cells cur 38 (0, 0)) ∧ pv.1.fields.length * 8 ≤ cur.size) := by
    rcases Nat.eq_zero_or_pos pv.1.fields.length with h0 | h0
    · exact ⟨wq.heap.size, by omega, .inr rfl, fun h => absurd h (by omega)⟩
    · obtain ⟨g, cur, e, hg0, hg3, hgr, hgs⟩ := HG4.out h0
      exact ⟨g, hg0, .inl hg3, fun _ => ⟨e, cur, (KQ.out g hg3).trans hgr, hgs⟩⟩
  have HROW := Lib.hid hrow
  have hfl := HPFIT.out.parts.2.1
  have hfl2 : (pv.1.fields.length : Int) ≤ 10000 := by omega
  clear hrow
  go_wp2_with fail
  go_loopw [19] (fun i wr => ∃ k : Nat, k ≤ pv.1.fields.length ∧ i = .int .i64 k ∧ But g wq wr ∧ (0 < pv.1.fields.length → Spoilt g (pv.1.fields.length * 8) wq wr)) (fun i _ => pv.1.fields.length - (intOf i).toNat)
  case atStart => exact ⟨0, Nat.zero_le _, rfl, But.refl _ _, fun h => ⟨But.refl _ _, (HROW.out h).2⟩⟩
  case round =>
    obtain ⟨k, hk, rfl, hbt, hsp⟩ := hrel
    have HBT := Lib.hid hbt
    have hzr := hbt.size
    have hk0 : (0 : Int) ≤ (k : Int) := by omega
    obtain ⟨p0, p1, p2, p3, p4, p5⟩ := (HPq.out.box.same (hbt.block _ HPq.out.box.lt (by omega))).cells
    have lp : w4.heap.size < wr.heap.size := by omega
    clear hbt
    by_cases hlt : k < pv.1.fields.length
    · have hk1 : (k : Int) < (pv.1.fields.length : Int) := by omega
      have SP := Lib.hid (hsp (by omega))
      obtain ⟨rfl, _⟩ := HROW.out (by omega)
      clear hsp
      obtain ⟨v0, m0⟩ := SP.out.cell (i := k * 8) (by omega)
      have f0 := SP.out.free (k * 8)
      have hne : ¬ g = w4.heap.size := by omega
      have hne2 : ¬ w4.heap.size = g := by omega
      go_wp2_with fail
      go_roundw
      case rel => exact ⟨k + 1, by omega, by go_num, (SP.out.set _).but, fun _ => SP.out.set _⟩
      case measure => simp [intOf]; omega
    · have hk1 : ¬ (k : Int) < (pv.1.fields.length : Int) := by omega
      clear hsp
      have STr := Lib.hid (STq.out.but HBT.out (by omega))
      have HQr := Lib.hid (HQq.out.but HBT.out (by omega) (by omega) (by omega))
      clear HBT STq HPq HQq
      obtain ⟨x0, x1, x2, x3, x4, x5⟩ := STr.out.bx.cells
      obtain ⟨f0, f1, f2, f3, f4, f5, f6, f7⟩ := STr.out.bf.cells
      have lx : w.heap.size < wr.heap.size := by have := STr.out.sz; omega
      have lf : w.heap.size + 1 < wr.heap.size := by have := STr.out.sz; omega
      have lx1 : w.heap.size < wr.heap.size + 1 := by omega
      have lf1 : w.heap.size + 1 < wr.heap.size + 1 := by omega
      go_wp2_with fail
      have hcall := tput_any (t := t) (f := f) (by omega) (by omega) HFT.out (by omega) (by omega) HFF.out HPF.out (Nat.le_refl _) STr.out.tv STr.out.ffv
      rw [HPV.out] at hcall
      refine hcall.mono ?_
      clear hcall
      rintro e w14 ⟨y3, y4, y5, rfl, hcp, hb14⟩
      obtain ⟨G3, k3, G4, k4, G5, k5, rfl, rfl, rfl⟩ := hcp.forms
      have hz14 := hb14.size
      have ST14 := Lib.hid (STr.out.next hb14)
      have HQ14 := Lib.hid (HQr.out.next hb14)
      have HG14 := Lib.hid hcp
      clear hcp hb14 STr HQr x0 x1 x2 x3 x4 x5 f0 f1 f2 f3 f4 f5 f6 f7 lx lf lx1 lf1 p0 p1 p2 p3 p4 p5 lp
      obtain ⟨r0, r1, r2, r3, r4, r5⟩ := HQ14.out.box.cells
      have lq := HQ14.out.box.lt
      have lq1 : w6.heap.size < w14.heap.size + 1 := by omega
      go_wp2_with fail
      clear r0 r1 r2 r3 r4 r5 lq lq1
      obtain ⟨w15, hw15⟩ : ∃ w15, w15 = w14.alloc (.cells #[.int .i64 pv.1.kind, .int .i64 pv.1.lo, .int .i64 pv.1.hi, .slice G3 pv.1.names.length k3, .slice G4 pv.1.fields.length k4, .slice G5 pv.1.of.length k5] 26) := ⟨_, rfl⟩
      have hb15 : Below w14.heap.size w14 w15 := by rw [hw15]; exact (Below.refl _ _).alloc (Nat.le_refl _) _
      have HG15 : Hid (Hold w15 w14.heap.size wr.heap.size pv.1 G3 G4 G5 k3 k4 k5) := by rw [hw15]; exact Hold.new HG14.out
      have ST15 := Lib.hid (ST14.out.next hb15)
      have HQ15 := Lib.hid (HQ14.out.next hb15)
      rw [← hw15]
      clear hw15 hb15 HG14 ST14 HQ14
      refine (rtsame_self (t := pv.1) HPFIT.out (Nat.le_refl _) HG15.out.v HQ15.out.v).mono ?_
      rintro e w16 ⟨rfl, hb16⟩
      go_wp2_with fail
      go_ret
      exact ⟨rfl, ST15.out.bl.trans (hb16.mono ST15.out.bl.size)⟩
end Go.Proofs.YtcbbocnblgpbbaaDoor
