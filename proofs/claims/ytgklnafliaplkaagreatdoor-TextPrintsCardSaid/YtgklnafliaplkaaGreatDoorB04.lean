/-
  The reader: fail, peek.
  The reader goes over blanks.
  What text.read defers: it recovers a fault, and lays it into the results; where nothing panicked it does nothing.
-/
import Derived.Test.YtgklnafliaplkaaGreatDoorB01
import Derived.Test.YtgklnafliaplkaaGreatDoorProg
import Derived.Lib.Hide
import Derived.WalkLawsBesides
import Derived.Deep.QuietTactic
import Derived.Laws.Strings
import Derived.Deep.Cut
import Derived.Deep.CutRange
import Derived.Defers
import Derived.Recover
import Derived.Tactics2
import Derived.Laws.Pointers
import Derived.Deep.RegionHeld3
namespace Go.Proofs.YtgklnafliaplkaaGreatDoor
open Go.RowKit

/-- What a reader panics with. -/
def faultV (at_ err : Int) : Value := .iface 67 (.agg #[.int .i64 at_, .int .i64 err])
def Failed (at_ err : Int) (e : Ending) : Prop := e = .panicked [{ v := faultV at_ err, recovered := false }]
set_option maxHeartbeats 1000000 in
theorem fail_any (at_ err : Int) (w : World) : Calls Tryz.prog 40 #[.int .i64 at_, .int .i64 err] w fun e w' => Failed at_ err e ∧ w' = w := by
  go_enter Tryz.func40, Tryz.ntmps40
  go_wp2_with fail
  exact ⟨rfl, rfl, rfl⟩
/-- The reader at block r: its text, its place, how many parts have begun. -/
def Rdr (w : World) (r : Nat) (s : ByteArray) (at_ parts : Nat) : Prop := w.heap[r]? = some (.cells #[.string s, .int .i64 at_, .int .i64 parts] 65 (0, 0))
theorem rdr_cell {w : World} {b i : Nat} {cs : Array Value} {t : TypeId} (h : w.heap[b]? = some (.cells cs t (0, 0))) : w.cell? ⟨b, i, none⟩ = cs[i]? := by simp [World.cell?, h]
theorem Rdr.cells {w : World} {r : Nat} {s : ByteArray} {at_ parts : Nat} (h : Rdr w r s at_ parts) : w.cell? ⟨r, 0, none⟩ = some (.string s) ∧ w.cell? ⟨r, 1, none⟩ = some (.int .i64 at_) ∧ w.cell? ⟨r, 2, none⟩ = some (.int .i64 parts) := ⟨rdr_cell h, rdr_cell h, rdr_cell h⟩
theorem Rdr.frozen {w : World} {r : Nat} {s : ByteArray} {at_ parts : Nat} (h : Rdr w r s at_ parts) (i : Nat) : w.frozen? ⟨r, i, none⟩ = false := by simp [World.frozen?, show w.heap[r]? = _ from h]
/-- The byte that is next; zero at the end. -/
def peekB (s : ByteArray) (at_ : Nat) : UInt8 := if h : at_ < s.size then s[at_] else 0
set_option maxHeartbeats 2000000 in
set_option maxRecDepth 100000 in
theorem peek_any {w : World} {r : Nat} {s : ByteArray} {at_ parts : Nat} (h : Rdr w r s at_ parts) (ha : at_ ≤ s.size) :
    Calls Tryz.prog 42 #[.pointer (some ⟨r, 0, none⟩)] w fun e w' => e = .returned (.int .u8 (peekB s at_).toNat) ∧ ∃ n, w' = w.drewN n := by
  obtain ⟨c0, c1, c2⟩ := h.cells
  by_cases he : at_ = s.size
  · have hn : ((at_ : Int) == (s.size : Int)) = true := by simp; omega
    have hp : peekB s at_ = 0 := by unfold peekB; rw [dif_neg (by omega)]
    rw [hp]
    clear h
    go_enter Tryz.func42, Tryz.ntmps42
    go_wp2_with fail
    go_quiet (fail)
    go_wp2_with fail
    go_ret
    exact ⟨rfl, _, rfl⟩
  · have hn : ((at_ : Int) == (s.size : Int)) = false := by simp; omega
    have hlt : at_ < s.size := by omega
    have hik0 : (0 : Int) ≤ (at_ : Int) := by omega
    have hik1 : (at_ : Int) < (s.size : Int) := by omega
    have hp : peekB s at_ = s[at_] := by unfold peekB; rw [dif_pos hlt]
    rw [hp]
    clear h
    go_enter Tryz.func42, Tryz.ntmps42
    go_wp2_with fail
    go_quiet (fail)
    go_wp2_with fail
    go_quiet (fail)
    go_wp2_with fail
    go_ret
    exact ⟨rfl, _, World.drewN_drewN _ _ _⟩
theorem Rdr.drewN {w : World} {r : Nat} {s : ByteArray} {at_ parts : Nat} (h : Rdr w r s at_ parts) (n : Nat) : Rdr (w.drewN n) r s at_ parts := h
theorem Rdr.goes {w : World} {r : Nat} {s : ByteArray} {at_ parts k : Nat} (h : Rdr w r s at_ parts) : Rdr (w.setCell ⟨r, 1, none⟩ (.int .i64 (k : Nat))) r s k parts := by
  unfold Rdr at h ⊢
  simp [World.setCell, Array.getElem?_modify, h]
theorem turned_drewN (w : World) (n r : Nat) : Turned w (w.drewN n) [] r := ⟨rfl, rfl, rfl, Nat.le_refl _, fun _ _ _ _ => rfl⟩
/-- What a call tells that reads on: it stands at k, or it panics. -/
def Reads (w : World) (r : Nat) (s : ByteArray) (parts : Nat) (v : Value) (k : Nat) (e : Ending) (w' : World) : Prop := e = .returned v ∧ Rdr w' r s k parts ∧ Turned w w' [] r
set_option maxHeartbeats 2000000 in
set_option maxRecDepth 100000 in
theorem take_any {w : World} {r : Nat} {s : ByteArray} {at_ parts : Nat} (c : UInt8) (h : Rdr w r s at_ parts) (ha : at_ ≤ s.size) (hs : s.size ≤ 140737488351232) :
    Calls Tryz.prog 41 #[.pointer (some ⟨r, 0, none⟩), .int .u8 c.toNat] w fun e w' => (peekB s at_ = c ∧ Reads w r s parts (.tuple #[]) (at_ + 1) e w') ∨ (peekB s at_ ≠ c ∧ Failed at_ 4 e ∧ Turned w w' [] r) := by
  have HP := Lib.hid (peek_any h ha)
  have HR := Lib.hid h
  clear h
  go_enter Tryz.func41, Tryz.ntmps41
  go_wp2_with fail
  refine HP.out.mono ?_
  rintro e w1 ⟨rfl, n, rfl⟩
  have HR1 := Lib.hid (HR.out.drewN n)
  obtain ⟨c0, c1, c2⟩ := HR1.out.cells
  have f1 := HR1.out.frozen 1
  obtain ⟨p, hp⟩ : ∃ p, p = peekB s at_ := ⟨_, rfl⟩
  rw [← hp]
  have HPP := Lib.hid hp
  clear hp HP
  by_cases hc : p = c
  · have hn : ((p.toNat : Int) != (c.toNat : Int)) = false := by simp [hc]
    have HC := Lib.hid hc
    clear hc
    go_wp2_with fail
    go_end0
    exact .inl ⟨by rw [← HPP.out, HC.out], rfl, HR1.out.goes (k := at_ + 1), (turned_drewN w n r).setCell (.inr (.inl rfl)) _⟩
  · have hn : ((p.toNat : Int) != (c.toNat : Int)) = true := by
      simp only [bne_iff_ne, ne_eq]
      intro h
      exact hc (UInt8.toNat_inj.1 (by omega))
    have HC := Lib.hid hc
    clear hc
    go_wp2_with fail
    refine (fail_any (at_ : Int) 4 _).mono ?_
    rintro e w2 ⟨he, rfl⟩
    unfold Failed at he
    subst he
    exact ⟨rfl, .inr ⟨by rw [← HPP.out]; exact HC.out, rfl, turned_drewN w n r⟩⟩
end Go.Proofs.YtgklnafliaplkaaGreatDoor
namespace Go.Proofs.YtgklnafliaplkaaGreatDoor
open Go.RowKit

def blankB (c : UInt8) : Bool := decide (c.toNat = 32) || decide (c.toNat = 9) || decide (c.toNat = 10) || decide (c.toNat = 13)
/-- Where the first byte stands that is no blank. -/
def skipB (s : ByteArray) (k : Nat) : Nat := if h : k < s.size then (if blankB s[k] = true then skipB s (k + 1) else k) else k
termination_by s.size - k
theorem skipB_go {s : ByteArray} {k : Nat} (h : blankB (peekB s k) = true) : k < s.size ∧ skipB s k = skipB s (k + 1) := by
  have hk : k < s.size := by
    rcases Nat.lt_or_ge k s.size with h1 | h1
    · exact h1
    · unfold peekB at h; rw [dif_neg (by omega)] at h; simp [blankB] at h
  refine ⟨hk, ?_⟩
  unfold peekB at h
  rw [dif_pos hk] at h
  rw [skipB, dif_pos hk, if_pos h]
theorem skipB_stop {s : ByteArray} {k : Nat} (h : blankB (peekB s k) = false) : skipB s k = k := by
  rw [skipB]
  split
  · rename_i hk
    unfold peekB at h
    rw [dif_pos hk] at h
    rw [if_neg (by rw [h]; decide)]
  · rfl
def atOf (w : World) (r : Nat) : Nat := match w.cell? ⟨r, 1, none⟩ with | some (.int _ n) => n.toNat | _ => 0
set_option maxHeartbeats 4000000 in
set_option maxRecDepth 100000 in
theorem blanks_any {w : World} {r : Nat} {s : ByteArray} {at_ parts : Nat} (h : Rdr w r s at_ parts) (ha : at_ ≤ s.size) (hs : s.size ≤ 140737488351232) :
    Calls Tryz.prog 37 #[.pointer (some ⟨r, 0, none⟩)] w fun e w' => Reads w r s parts (.tuple #[]) (skipB s at_) e w' := by
  have HR := Lib.hid h
  clear h
  go_enter Tryz.func37, Tryz.ntmps37
  go_wp2_with fail
  go_loopw [4] (fun _ wr => ∃ k : Nat, k ≤ s.size ∧ skipB s k = skipB s at_ ∧ Hid (Rdr wr r s k parts) ∧ Hid (Turned w wr [] r)) (fun _ wr => s.size - atOf wr r)
  case atStart => exact ⟨at_, ha, rfl, HR, Lib.hid (Turned.of_below (Below.refl _ _) _ _)⟩
  case round =>
    obtain ⟨k, hk0, hsk, HK, HT⟩ := hrel
    have HSK := Lib.hid hsk
    clear hsk
    have hat : atOf wr r = k := by unfold atOf; rw [HK.out.cells.2.1]; simp
    have HAT := Lib.hid hat
    clear hat
    go_wp2_with fail
    refine (peek_any HK.out hk0).mono ?_
    rintro e w1 ⟨rfl, n, rfl⟩
    have HR1 := Lib.hid (HK.out.drewN n)
    obtain ⟨c0, c1, c2⟩ := HR1.out.cells
    have f1 := HR1.out.frozen 1
    obtain ⟨p, hp⟩ : ∃ p, p = peekB s k := ⟨_, rfl⟩
    rw [← hp]
    have HPP := Lib.hid hp
    clear hp
    by_cases hb : blankB p = true
    · have hgo := skipB_go (s := s) (k := k) (by rw [← HPP.out]; exact hb)
      have HGO := Lib.hid hgo
      have hkl := hgo.1
      clear hgo
      have hor : p.toNat = 32 ∨ p.toNat = 9 ∨ p.toNat = 10 ∨ p.toNat = 13 := by simpa [blankB, or_assoc] using hb
      have HM : Hid (∀ X, X = (wr.drewN n).setCell ⟨r, 1, none⟩ (.int .i64 ((k : Int) + 1)) → Rdr X r s (k + 1) parts ∧ Turned w X [] r ∧ atOf X r = k + 1) := Lib.hid (fun X hX => by
        have h1 : Rdr X r s (k + 1) parts := by rw [hX]; exact HR1.out.goes (k := k + 1)
        refine ⟨h1, by rw [hX]; exact (HT.out.trans (turned_drewN wr n r)).setCell (.inr (.inl rfl)) _, ?_⟩
        unfold atOf; rw [h1.cells.2.1]; simp)
      clear hb
      rcases hor with h | h | h | h
      · have e1 : ((p.toNat : Int) == 32) = true := by simp [h]
        clear h
        go_wp2_with fail
        obtain ⟨m1, m2, m3⟩ := HM.out _ rfl
        refine ⟨⟨k + 1, by omega, by rw [← HGO.out.2, HSK.out], Lib.hid m1, Lib.hid m2⟩, by rw [m3, HAT.out]; omega⟩
      · have e1 : ((p.toNat : Int) == 32) = false := by simp [h]
        have e2 : ((p.toNat : Int) == 9) = true := by simp [h]
        clear h
        go_wp2_with fail
        obtain ⟨m1, m2, m3⟩ := HM.out _ rfl
        refine ⟨⟨k + 1, by omega, by rw [← HGO.out.2, HSK.out], Lib.hid m1, Lib.hid m2⟩, by rw [m3, HAT.out]; omega⟩
      · have e1 : ((p.toNat : Int) == 32) = false := by simp [h]
        have e2 : ((p.toNat : Int) == 9) = false := by simp [h]
        have e3 : ((p.toNat : Int) == 10) = true := by simp [h]
        clear h
        go_wp2_with fail
        obtain ⟨m1, m2, m3⟩ := HM.out _ rfl
        refine ⟨⟨k + 1, by omega, by rw [← HGO.out.2, HSK.out], Lib.hid m1, Lib.hid m2⟩, by rw [m3, HAT.out]; omega⟩
      · have e1 : ((p.toNat : Int) == 32) = false := by simp [h]
        have e2 : ((p.toNat : Int) == 9) = false := by simp [h]
        have e3 : ((p.toNat : Int) == 10) = false := by simp [h]
        have e4 : ((p.toNat : Int) == 13) = true := by simp [h]
        clear h
        go_wp2_with fail
        obtain ⟨m1, m2, m3⟩ := HM.out _ rfl
        refine ⟨⟨k + 1, by omega, by rw [← HGO.out.2, HSK.out], Lib.hid m1, Lib.hid m2⟩, by rw [m3, HAT.out]; omega⟩
    · have hst := skipB_stop (s := s) (k := k) (by rw [← HPP.out]; simpa using hb)
      have HST := Lib.hid hst
      clear hst
      have hnot : p.toNat ≠ 32 ∧ p.toNat ≠ 9 ∧ p.toNat ≠ 10 ∧ p.toNat ≠ 13 := by
        simp only [blankB, Bool.or_eq_true, decide_eq_true_eq] at hb; omega
      have e1 : ((p.toNat : Int) == 32) = false := by simp; omega
      have e2 : ((p.toNat : Int) == 9) = false := by simp; omega
      have e3 : ((p.toNat : Int) == 10) = false := by simp; omega
      have e4 : ((p.toNat : Int) == 13) = false := by simp; omega
      clear hb hnot
      go_wp2_with fail
      first | go_end0 | go_ret
      exact ⟨rfl, by rw [← HSK.out, HST.out]; exact HR1.out, HT.out.trans (turned_drewN wr n r)⟩
end Go.Proofs.YtgklnafliaplkaaGreatDoor
namespace Go.Proofs.YtgklnafliaplkaaGreatDoor
open Go.RowKit

set_option maxHeartbeats 2000000 in
theorem rescue_idle (pa pe : Value) (w : World) :
    CallsD Tryz.prog 39 #[pa, pe] .returning w fun e u' w' => e = .returned (.tuple #[]) ∧ u' = .returning ∧ w' = w := by
  refine callsD_of_wpS Tryz.func39 rfl fun c₀ cs hu => ?_
  apply wpS_seq
  apply wpS_region
  simp [wpOpsS, go_sem, recoverD, hu, Tryz.ntmps39, Exit.thenS]
  apply wpS_seq
  apply wpS_region
  simp [wpOpsS, go_sem, recoverD, hu, Exit.thenS]
  refine wpS_cond (t := false) (by simp [Act.eval, Array.replicate]) ?_
  simp only [Bool.false_eq_true, if_false]
  refine wpS_of_wp (wp_skip ?_)
  cases c₀
  simp_all [bodyPostS, results, Tryz.results39]
set_option maxHeartbeats 2000000 in
set_option maxRecDepth 100000 in
theorem rescue_any {a e : Nat} (at_ err : Int) (older : List PanicEntry) (w : World) (ha : w.heap[a]? = some (.cells #[.int .i64 0] 3 (0, 0))) (he : w.heap[e]? = some (.cells #[.int .i64 0] 35 (0, 0))) (hne : a ≠ e) :
    CallsD Tryz.prog 39 #[.pointer (some ⟨a, 0, none⟩), .pointer (some ⟨e, 0, none⟩)] (.panicking ({ v := faultV at_ err, recovered := false } :: older)) w fun en u' w' =>
      en = .returned (.tuple #[]) ∧ u' = .panicking ({ v := faultV at_ err, recovered := true } :: older) ∧ w' = (((w.alloc (.cells #[.int .i64 at_, .int .i64 err] 67)).setCell ⟨a, 0, none⟩ (.int .i64 at_)).setCell ⟨e, 0, none⟩ (.int .i64 err)).drew := by
  unfold faultV
  have hta : ∀ W : World, (Instr.typeAssert (.iface 67 (.agg #[.int .i64 at_, .int .i64 err])) 20 67 false).run Tryz.prog W = .ok (.agg #[.int .i64 at_, .int .i64 err]) W := fun W => by first | rfl | simp [Instr.typeAssert, go_sem]
  refine callsD_of_wpS Tryz.func39 rfl fun c₀ cs hu => ?_
  apply wpS_seq
  apply wpS_region
  simp [wpOpsS, go_sem, recoverD, hu, Tryz.ntmps39, Exit.thenS]
  apply wpS_seq
  apply wpS_region
  simp [wpOpsS, go_sem, recoverD, Exit.thenS]
  refine wpS_cond (t := true) (by simp [Act.eval, Array.replicate]) ?_
  simp only [if_true]
  refine wpS_of_wp ?_
  obtain ⟨V, hV⟩ : ∃ V, V = Value.iface 67 (.agg #[.int .i64 at_, .int .i64 err]) := ⟨_, rfl⟩
  change Code.wp _ _ _ { tmps := #[.pointer (some ⟨a, 0, none⟩), .pointer (some ⟨e, 0, none⟩), .iface 67 (.agg #[.int .i64 at_, .int .i64 err]), undef, .iface 67 (.agg #[.int .i64 at_, .int .i64 err]), .iface 67 (.agg #[.int .i64 at_, .int .i64 err]), .bool true, undef, undef, undef, undef, undef, undef], defers := [] } _
  go_wp2_with fail
  have b0 : (w.alloc (.cells #[.int .i64 at_, .int .i64 err] 67)).cell? ⟨w.heap.size, 0, none⟩ = some (.int .i64 at_) := rdr_cell (heap_alloc_new w _)
  have b1 : (w.alloc (.cells #[.int .i64 at_, .int .i64 err] 67)).cell? ⟨w.heap.size, 1, none⟩ = some (.int .i64 err) := rdr_cell (heap_alloc_new w _)
  have hal : a < w.heap.size := by
    rcases Nat.lt_or_ge a w.heap.size with h | h
    · exact h
    · simp [Array.getElem?_eq_none h] at ha
  have hel : e < w.heap.size := by
    rcases Nat.lt_or_ge e w.heap.size with h | h
    · exact h
    · simp [Array.getElem?_eq_none h] at he
  obtain ⟨w1, hw1⟩ : ∃ w1, w1 = w.alloc (.cells #[.int .i64 at_, .int .i64 err] 67) := ⟨_, rfl⟩
  have ha1 : w1.heap[a]? = some (.cells #[.int .i64 0] 3 (0, 0)) := by rw [hw1]; exact (Below.heap_alloc w _ a hal).trans ha
  have he1 : w1.heap[e]? = some (.cells #[.int .i64 0] 35 (0, 0)) := by rw [hw1]; exact (Below.heap_alloc w _ e hel).trans he
  rw [← hw1] at b0 b1 ⊢
  have HW1 := Lib.hid hw1
  clear hw1
  have ca : w1.cell? ⟨a, 0, none⟩ = some (.int .i64 0) := rdr_cell ha1
  have ce : w1.cell? ⟨e, 0, none⟩ = some (.int .i64 0) := rdr_cell he1
  have fa : w1.frozen? ⟨a, 0, none⟩ = false := by simp [World.frozen?, ha1]
  have fe : w1.frozen? ⟨e, 0, none⟩ = false := by simp [World.frozen?, he1]
  have hx : ∀ (q : Addr) (u : Value), q.block ≠ w.heap.size → ((w1.setCell q u).cell? ⟨w.heap.size, 0, none⟩ = some (.int .i64 at_) ∧ (w1.setCell q u).cell? ⟨w.heap.size, 1, none⟩ = some (.int .i64 err)) := fun q u hq =>
    ⟨(World.cell?_of_block (a := ⟨w.heap.size, 0, none⟩) (Below.heap_setCell _ _ _ _ (Ne.symm hq))).trans b0, (World.cell?_of_block (a := ⟨w.heap.size, 1, none⟩) (Below.heap_setCell _ _ _ _ (Ne.symm hq))).trans b1⟩
  have fw : ∀ (q : Addr) (u : Value), (w1.setCell q u).frozen? ⟨e, 0, none⟩ = w1.frozen? ⟨e, 0, none⟩ := fun q u => by simp
  have cw : (w1.setCell ⟨a, 0, none⟩ (.int .i64 at_)).cell? ⟨e, 0, none⟩ = some (.int .i64 0) := (World.cell?_of_block (a := ⟨e, 0, none⟩) (Below.heap_setCell _ _ _ _ (Ne.symm hne))).trans ce
  have HX1 := Lib.hid (hx ⟨a, 0, none⟩ (.int .i64 at_) (by show a ≠ _; omega))
  have HX2 := Lib.hid (hx ⟨e, 0, none⟩ (.int .i64 err) (by show e ≠ _; omega))
  have HX3 : Hid ((((w1.setCell ⟨a, 0, none⟩ (.int .i64 at_)).setCell ⟨e, 0, none⟩ (.int .i64 err)).cell? ⟨w.heap.size, 0, none⟩ = some (.int .i64 at_) ∧ ((w1.setCell ⟨a, 0, none⟩ (.int .i64 at_)).setCell ⟨e, 0, none⟩ (.int .i64 err)).cell? ⟨w.heap.size, 1, none⟩ = some (.int .i64 err))) := Lib.hid (by
    have h1 := hx ⟨a, 0, none⟩ (.int .i64 at_) (by show a ≠ _; omega)
    have hn : w.heap.size ≠ e := by omega
    exact ⟨(World.cell?_of_block (a := ⟨w.heap.size, 0, none⟩) (Below.heap_setCell _ _ _ _ hn)).trans h1.1, (World.cell?_of_block (a := ⟨w.heap.size, 1, none⟩) (Below.heap_setCell _ _ _ _ hn)).trans h1.2⟩)
  clear hx
  go_region_held3 (fun w' => w'.cell? ⟨w.heap.size, 0, none⟩ = some (.int .i64 at_) ∧ w'.cell? ⟨w.heap.size, 1, none⟩ = some (.int .i64 err))
    (first | exact ⟨b0, b1⟩ | exact HX1.out | exact HX2.out | exact HX3.out) (fail)
  have hw1 := HW1.out
  clear HW1 HX1 HX2 HX3
  subst hw1
  clear b0 b1 ca ce fa fe fw cw ha1 he1
  exact ⟨rfl, _, rfl, .tuple #[], by simp [results, Tryz.results39], rfl, rfl, rfl⟩
end Go.Proofs.YtgklnafliaplkaaGreatDoor
