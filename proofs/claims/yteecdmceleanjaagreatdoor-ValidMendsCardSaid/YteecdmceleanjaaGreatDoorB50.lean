/-
  The document's own mended documents: the contract, and a document's end.
  The document's own mend: what is not of the type, and what has no kids.
  The document's own mend, of dictionaries and lists.
  The document's own mend, of records.
  The document's own mend and Mend.
  The law's own copy of a document.
-/
import Derived.Test.YteecdmceleanjaaGreatDoorB05
import Derived.Test.YteecdmceleanjaaGreatDoorB24
import Derived.Test.YteecdmceleanjaaGreatDoorB43
import Derived.Test.YteecdmceleanjaaGreatDoorB13
import Derived.Test.YteecdmceleanjaaGreatDoorB32
import Derived.Test.YteecdmceleanjaaGreatDoorB20
import Derived.StillTailTactics
import Derived.Test.YteecdmceleanjaaGreatDoorB49
import Derived.Deep.RegionLaw
import Derived.Deep.RegionHeld3
import Derived.BigRegion
namespace Go.Proofs.YteecdmceleanjaaGreatDoor
open Go.RowKit

theorem row_docS2 {w : World} {base : Nat} {v4 : Value} {ls : List D} {cs : List Value} {S S' : Nat → Prop} (h4 : w.ownsRow base 29 5 v4 ls.length cs) (h5 : DocR w S ls cs) (hS : ∀ k, S k → S' k) (hb : ∀ k, base ≤ k → k < w.heap.size → S' k) :
    ∃ (A : Option Addr) (c : Nat), v4 = .slice A ls.length c ∧ ls.length ≤ c ∧ (0 < ls.length → ∃ b off, A = some ⟨b, off, none⟩ ∧ S' b ∧ KidsS w S' b off 0 ls) := by
  rcases Nat.eq_zero_or_pos ls.length with hz | hz
  · rcases h4.2 with ⟨rfl, _⟩ | ⟨g, cap, cur, rfl, _, hh, hc, _⟩
    · exact ⟨none, 0, by rw [hz], by omega, fun h => by omega⟩
    · exact ⟨some ⟨g, 0, none⟩, cap, rfl, hc, fun h => by omega⟩
  · obtain ⟨g, cap, rfl, hg, hlt⟩ := h4.form hz
    have hc : ls.length ≤ cap := by
      rcases h4.2 with ⟨e, _⟩ | ⟨g', cap', cur, e, _, _, hc, _⟩
      · cases e
      · injection e with _ _ e3; omega
    refine ⟨some ⟨g, 0, none⟩, cap, rfl, hc, fun _ => ⟨g, 0, rfl, hb g hg hlt, ?_⟩⟩
    exact DocR.kids hS h5 (i := 0) fun j hj => by
      rw [Nat.zero_mul, Nat.add_zero, Nat.zero_add, h4.cellAt j (by have := h4.1; omega)]
/-- What a call tells that mends a document: of documents in blocks below B. -/
def RMendTo (m : Nat) : Prop := ∀ (t : T) (d : D) (tv uv : Value) (w : World) (B : Nat), t.depth ≤ m → rightT t = true → t.Fit → d.Fit → partB d = true → d.size ≤ 512 → B ≤ w.heap.size → TypeV w B t tv → DocV w B d uv →
  Calls Tryz.prog 52 #[tv, uv] w (MadeDocS2 w (fun k => k < B) (t.mend d).1 (.int .i64 (t.mend d).2))
/-- Five cells of a variable, written. -/
theorem store5_heap (wr : World) (r : Nat) (a0 a1 a2 a3 a4 : Value) : (∀ k, k ≠ r → (((((wr.setCell ⟨r, 0, none⟩ a0).setCell ⟨r, 1, none⟩ a1).setCell ⟨r, 2, none⟩ a2).setCell ⟨r, 3, none⟩ a3).setCell ⟨r, 4, none⟩ a4).heap[k]? = wr.heap[k]?) ∧ (((((wr.setCell ⟨r, 0, none⟩ a0).setCell ⟨r, 1, none⟩ a1).setCell ⟨r, 2, none⟩ a2).setCell ⟨r, 3, none⟩ a3).setCell ⟨r, 4, none⟩ a4).heap.size = wr.heap.size :=
  ⟨fun k hk => by rw [Below.heap_setCell _ _ _ k hk, Below.heap_setCell _ _ _ k hk, Below.heap_setCell _ _ _ k hk, Below.heap_setCell _ _ _ k hk, Below.heap_setCell _ _ _ k hk], by simp [World.setCell]⟩
theorem store5_below {w wr : World} {r : Nat} (hb : Below w.heap.size w wr) (hr : w.heap.size ≤ r) (a0 a1 a2 a3 a4 : Value) : Below w.heap.size w (((((wr.setCell ⟨r, 0, none⟩ a0).setCell ⟨r, 1, none⟩ a1).setCell ⟨r, 2, none⟩ a2).setCell ⟨r, 3, none⟩ a3).setCell ⟨r, 4, none⟩ a4) :=
  ((((hb.setCell (by exact hr) _).setCell (by exact hr) _).setCell (by exact hr) _).setCell (by exact hr) _).setCell (by exact hr) _
/-- A document in blocks of the set, stored in the result's variable. -/
theorem MadeDocS2.stored {w w8 : World} {B r : Nat} {x : D} {n a0 a1 a2 a3 a4 : Value} (hG : DocS w8 (fun k => (k < B ∨ (w.heap.size ≤ k ∧ k ≠ r)) ∧ k < w8.heap.size) x a0 a1 a2 a3 a4) (hb : Below w.heap.size w w8) (hB : B ≤ w.heap.size) (hr : w.heap.size ≤ r) :
    MadeDocS2 w (fun k => k < B) x n (.returned (.tuple #[.agg #[a0, a1, a2, a3, a4], n])) (((((w8.setCell ⟨r, 0, none⟩ a0).setCell ⟨r, 1, none⟩ a1).setCell ⟨r, 2, none⟩ a2).setCell ⟨r, 3, none⟩ a3).setCell ⟨r, 4, none⟩ a4) := by
  obtain ⟨hs, hz⟩ := store5_heap w8 r a0 a1 a2 a3 a4
  have hk1 : ∀ k, (k < B ∨ (w.heap.size ≤ k ∧ k ≠ r)) ∧ k < w8.heap.size → (k < B ∨ w.heap.size ≤ k) ∧ k < (((((w8.setCell ⟨r, 0, none⟩ a0).setCell ⟨r, 1, none⟩ a1).setCell ⟨r, 2, none⟩ a2).setCell ⟨r, 3, none⟩ a3).setCell ⟨r, 4, none⟩ a4).heap.size := fun k hk => by
    rw [hz]; exact ⟨by rcases hk.1 with h | h; exact .inl h; exact .inr h.1, hk.2⟩
  refine ⟨_, _, _, _, _, rfl, hG.keep hk1 fun p hp => World.cell?_of_block (hs p.block (by rcases hp.1 with h | h; omega; exact h.2)), store5_below hb hr _ _ _ _ _⟩
theorem rmend_out {w w3 wr : World} {B box r : Nat} {kd nm : Int} {st : ByteArray} {xs : List ByteArray} {ls : List D} {v3 v4 u : Value} {cs : List Value} {d : D} (h : DocM w3 wr (fun k => k < B) box kd nm st xs ls v3 v4 cs) (hd : d = .mk kd nm st xs ls)
    (hB : B ≤ w.heap.size) (hr : w.heap.size ≤ r) (hr3 : r < w3.heap.size) (hbx : w.heap.size ≤ box) (hb : Below w.heap.size w w3) :
    MadeDocS2 w (fun k => k < B) d u (.returned (.tuple #[.agg #[.int .i64 kd, .int .i64 nm, .string st, v3, v4], u])) (((((wr.setCell ⟨r, 0, none⟩ (.int .i64 kd)).setCell ⟨r, 1, none⟩ (.int .i64 nm)).setCell ⟨r, 2, none⟩ (.string st)).setCell ⟨r, 3, none⟩ v3).setCell ⟨r, 4, none⟩ v4) := by
  subst hd
  have hz := hb.size
  have hb2 : Below w.heap.size w wr := hb.trans (h.t.below (B := w.heap.size) (by simp) (by omega) (by omega))
  refine MadeDocS2.stored ?_ hb2 hB hr
  simp only [DocS]
  refine ⟨trivial, trivial, trivial, (strsS_own2 h.o3).keep (fun k hk => ⟨.inr (by omega), hk.2⟩) fun _ _ => rfl, ?_⟩
  exact row_docS2 h.o4 h.ok (fun k hk => ⟨by rcases hk.1 with h1 | h1 <;> omega, hk.2.1⟩) fun k hk hl => ⟨.inr (by omega), hl⟩
theorem rmend_outN {w w3 wr : World} {B box r : Nat} {kd nm : Int} {st : ByteArray} {xs : List ByteArray} {ls : List D} {v3 v4 u : Value} {cs : List Value} {d : D} (h : DocN w3 wr (fun k => k < B) box kd nm st xs ls v3 v4 cs) (hd : d = .mk kd nm st xs ls)
    (hB : B ≤ w.heap.size) (hr : w.heap.size ≤ r) (hr3 : r < w3.heap.size) (hbx : w.heap.size ≤ box) (hb : Below w.heap.size w w3) :
    MadeDocS2 w (fun k => k < B) d u (.returned (.tuple #[.agg #[.int .i64 kd, .int .i64 nm, .string st, v3, v4], u])) (((((wr.setCell ⟨r, 0, none⟩ (.int .i64 kd)).setCell ⟨r, 1, none⟩ (.int .i64 nm)).setCell ⟨r, 2, none⟩ (.string st)).setCell ⟨r, 3, none⟩ v3).setCell ⟨r, 4, none⟩ v4) := by
  subst hd
  have hz := hb.size
  have hzt := h.t.size
  have hb2 : Below w.heap.size w wr := hb.trans (h.t.below (B := w.heap.size) (by simp) (by omega) (by omega))
  refine MadeDocS2.stored ?_ hb2 hB hr
  simp only [DocS]
  refine ⟨trivial, trivial, trivial, h.k3.keep (fun k hk => ⟨.inl hk.1, by omega⟩) fun _ _ => rfl, ?_⟩
  exact row_docS2 h.o4 h.ok (fun k hk => ⟨by rcases hk.1 with h1 | h1 <;> omega, hk.2.1⟩) fun k hk hl => ⟨.inr (by omega), hl⟩
/-- A kid, mended, in a variable; its parts in blocks below B, or made since. -/
def RKid (wz : World) (B : Nat) (x : D) (nx : Nat) (s10 s11 : Value) (wx : World) : Prop :=
  ∃ (kb : Nat) (A7 : Option Addr) (c7 : Nat) (A8 : Option Addr) (c8 : Nat), s10 = .pointer (some ⟨kb, 0, none⟩) ∧ s11 = .int .i64 nx ∧ wz.heap.size ≤ kb ∧ Box5 wx kb (.int .i64 x.kind) (.int .i64 x.num) (.string x.str) (.slice A7 x.keys.length c7) (.slice A8 x.kids.length c8) ∧
    DocS wx (fun k => (k < B ∨ wz.heap.size ≤ k) ∧ k < wx.heap.size) x (.int .i64 x.kind) (.int .i64 x.num) (.string x.str) (.slice A7 x.keys.length c7) (.slice A8 x.kids.length c8) ∧ Below wz.heap.size wz wx
theorem RKid.late {wz w5 : World} {B : Nat} {x : D} {nx : Nat} {A7 A8 : Option Addr} {c7 c8 : Nat} (hB5 : Below wz.heap.size wz w5) (hG : DocS w5 (fun k => (k < B ∨ wz.heap.size ≤ k) ∧ k < w5.heap.size) x (.int .i64 x.kind) (.int .i64 x.num) (.string x.str) (.slice A7 x.keys.length c7) (.slice A8 x.kids.length c8)) :
    RKid wz B x nx (.pointer (some ⟨w5.heap.size, 0, none⟩)) (.int .i64 nx) (w5.alloc (.cells #[.int .i64 x.kind, .int .i64 x.num, .string x.str, .slice A7 x.keys.length c7, .slice A8 x.kids.length c8] 29)) :=
  ⟨w5.heap.size, A7, c7, A8, c8, rfl, rfl, hB5.size, Box5.new w5 _ _ _ _ _, hG.keep (fun k hk => ⟨hk.1, by rw [World.size_alloc]; omega⟩) fun p hp => World.cell?_alloc_lt w5 _ p hp.2, hB5.alloc hB5.size _⟩
theorem RKid.early {wz w5 : World} {B : Nat} {x : D} {nx b : Nat} {A7 A8 : Option Addr} {c7 c8 : Nat} (hb5 : Below (wz.alloc (.cells #[.int .i64 0, .int .i64 0, .string ⟨#[]⟩, .slice none 0 0, .slice none 0 0] 29)).drew.heap.size (wz.alloc (.cells #[.int .i64 0, .int .i64 0, .string ⟨#[]⟩, .slice none 0 0, .slice none 0 0] 29)).drew w5) (hG : DocS w5 (fun k => (k < B ∨ (wz.alloc (.cells #[.int .i64 0, .int .i64 0, .string ⟨#[]⟩, .slice none 0 0, .slice none 0 0] 29)).drew.heap.size ≤ k) ∧ k < w5.heap.size) x (.int .i64 x.kind) (.int .i64 x.num) (.string x.str) (.slice A7 x.keys.length c7) (.slice A8 x.kids.length c8)) (hB : B ≤ wz.heap.size) (hz : wz.heap.size = b) :
    RKid wz B x nx (.pointer (some ⟨b, 0, none⟩)) (.int .i64 nx) ((((((w5).setCell ⟨b, 0, none⟩ (.int .i64 x.kind)).setCell ⟨b, 1, none⟩ (.int .i64 x.num)).setCell ⟨b, 2, none⟩ (.string x.str)).setCell ⟨b, 3, none⟩ (.slice A7 x.keys.length c7)).setCell ⟨b, 4, none⟩ (.slice A8 x.kids.length c8)) := by
  subst hz
  have hsz : (wz.alloc (.cells #[.int .i64 0, .int .i64 0, .string ⟨#[]⟩, .slice none 0 0, .slice none 0 0] 29)).drew.heap.size = wz.heap.size + 1 := by show (World.alloc _ _).heap.size = _; simp
  have hbx : Box5 w5 wz.heap.size (.int .i64 0) (.int .i64 0) (.string ⟨#[]⟩) (.slice none 0 0) (.slice none 0 0) := (Box5.new wz _ _ _ _ _).same (hb5.block _ (by show _ < (World.alloc _ _).heap.size; simp))
  have hB5 : Below wz.heap.size wz w5 := (((Below.refl wz.heap.size wz).alloc (Nat.le_refl _) _).drew).trans (hb5.mono (by show _ ≤ (World.alloc _ _).heap.size; simp))
  obtain ⟨hs, hz⟩ := store5_heap w5 wz.heap.size (.int .i64 x.kind) (.int .i64 x.num) (.string x.str) (.slice A7 x.keys.length c7) (.slice A8 x.kids.length c8)
  refine ⟨wz.heap.size, A7, c7, A8, c8, rfl, rfl, Nat.le_refl _, ((((hbx.set0 _).set1 _).set2 _).set3 _).set4 _, hG.keep (fun k hk => ?_) fun p hp => World.cell?_of_block (hs p.block ?_), store5_below hB5 (Nat.le_refl _) _ _ _ _ _⟩
  · rw [hsz] at hk
    exact ⟨by rcases hk.1 with h | h <;> omega, by rw [hz]; exact hk.2⟩
  · rw [hsz] at hp
    rcases hp.1 with h | h <;> omega
/-- What a right document's number and text are, by its kind. -/
theorem plain_of {d : D} (h : partB d = true) (hk : d.kind = 1 ∨ d.kind = 2 ∨ d.kind = 3) : d.num = 0 ∧ d.str = ⟨#[]⟩ := by
  rw [partB_eq, Bool.and_eq_true] at h
  have h1 := h.1
  simp only [soundB, Bool.and_eq_true] at h1
  obtain ⟨k, n, s, ks, l⟩ := d
  obtain ⟨a, b, _⟩ := h1
  rw [numB_mk] at a
  rw [strB_mk] at b
  simp only [D.kind] at hk
  simp only [Bool.or_eq_true, Bool.and_eq_true, decide_eq_true_eq] at a b
  refine ⟨by show n = 0; omega, ?_⟩
  show s = ⟨#[]⟩
  have hs : s.size = 0 := by omega
  exact ByteArray.ext (Array.eq_empty_of_size_eq_zero (by simpa using hs))
theorem leaf_of {d : D} (h : partB d = true) (hk : d.kind = 4 ∨ d.kind = 5 ∨ d.kind = 6) : d.keys = [] ∧ d.kids = [] := by
  rw [partB_eq, Bool.and_eq_true] at h
  have h1 := docOk_of h.1
  have h2 := h1.leaf hk
  have h3 := h1.keys
  rw [h2] at h3
  exact ⟨List.eq_nil_of_length_eq_zero (by simpa using h3), h2⟩
end Go.Proofs.YteecdmceleanjaaGreatDoor
namespace Go.Proofs.YteecdmceleanjaaGreatDoor
open Go.RowKit

set_option maxHeartbeats 16000000 in
set_option maxRecDepth 100000 in
theorem rmend_no {t : T} {d : D} {tv uv : Value} {w : World} {B : Nat} (h0 : fitsV t d ≠ 0) (hr : rightT t = true) (hf : t.Fit) (hfd : d.Fit) (hB : B ≤ w.heap.size) (ht : TypeV w B t tv) (hd : DocV w B d uv) :
    Calls Tryz.prog 52 #[tv, uv] w (MadeDocS2 w (fun k => k < B) t.least (.int .i64 1)) := by
  obtain ⟨v0, v1, v2, v3, v4, v5, rfl, hti⟩ := ht
  obtain ⟨u0, u1, u2, u3, u4, rfl, hdi⟩ := hd
  have hall := (rightT_small hr).2.2
  have hok := leastOk_of (show soundT t = true by have h := hall; rw [allT_eq, Bool.and_eq_true] at h; exact h.1)
  have ST := Lib.hid ((TD.start hB hti hdi).next (w' := ((w.alloc (.cells #[v0, v1, v2, v3, v4, v5] 26)).alloc (.cells #[u0, u1, u2, u3, u4] 29)).alloc (.cells #[.int .i64 0, .int .i64 0, .string ⟨#[]⟩, .slice none 0 0, .slice none 0 0] 29)) ((Below.refl _ _).alloc (by simp) _))
  have HR : Hid (Box5 (((w.alloc (.cells #[v0, v1, v2, v3, v4, v5] 26)).alloc (.cells #[u0, u1, u2, u3, u4] 29)).alloc (.cells #[.int .i64 0, .int .i64 0, .string ⟨#[]⟩, .slice none 0 0, .slice none 0 0] 29)) (w.heap.size + 1 + 1) (.int .i64 0) (.int .i64 0) (.string ⟨#[]⟩) (.slice none 0 0) (.slice none 0 0)) := Box5.new' (by simp) _ _ _ _ _
  have hz : (((w.alloc (.cells #[v0, v1, v2, v3, v4, v5] 26)).alloc (.cells #[u0, u1, u2, u3, u4] 29)).alloc (.cells #[.int .i64 0, .int .i64 0, .string ⟨#[]⟩, .slice none 0 0, .slice none 0 0] 29)).heap.size = w.heap.size + 3 := by simp
  have HF := Lib.hid hf; have HFD := Lib.hid hfd; have HALL := Lib.hid hall; have HOK := Lib.hid hok
  clear hti hdi hf hfd hall hok hr
  go_enter Tryz.func52, Tryz.ntmps52
  go_wp2_with fail
  generalize (((w.alloc (.cells #[v0, v1, v2, v3, v4, v5] 26)).alloc (.cells #[u0, u1, u2, u3, u4] 29)).alloc (.cells #[.int .i64 0, .int .i64 0, .string ⟨#[]⟩, .slice none 0 0, .slice none 0 0] 29)) = w1 at *
  refine (rfits_any HOK.out.kind HF.out HFD.out ST.out.le ST.out.tv ST.out.dv).mono ?_
  rintro e w2 ⟨rfl, hb2⟩
  have hz2 := hb2.size
  have ST2 := Lib.hid (ST.out.next (hb2.mono (by omega)))
  obtain ⟨x0, x1, x2, x3, x4, x5⟩ := ST2.out.bt.cells
  have HR2 := Lib.hid (HR.out.same (hb2.block _ (by omega)))
  have HBW := Lib.hid ST2.out.bl
  have hrl : w.heap.size + 1 + 1 < w2.heap.size := by omega
  clear hb2 hz2
  obtain ⟨n8, hn8, hne8⟩ : ∃ n8 : Int, fitsV t d = n8 ∧ n8 ≠ 0 := ⟨_, rfl, h0⟩
  have hnb : (n8 != 0) = true := by simp [hne8]
  have HCA := Lib.hid (rleasts_any t.depth t _ w2 B (Nat.le_refl _) HALL.out HF.out ST2.out.le ST2.out.tv)
  rw [hn8]
  clear hn8 hne8 h0
  go_wp2_with fail
  go_at_call 85
  refine HCA.out.mono ?_
  rintro e w8 ⟨z0, z1, z2, z3, z4, G, rfl, hG, hGn, hb8⟩
  obtain ⟨x, hx⟩ : ∃ x, t.least = x := ⟨_, rfl⟩
  rw [hx] at hG
  obtain ⟨A7, c7, A8, c8, rfl, rfl, rfl, rfl, rfl⟩ := hG.doc.forms
  have HG := Lib.hid hG; have HB8 := Lib.hid hb8
  have HRB := Lib.hid (HR2.out.same (hb8.block _ hrl))
  have HX := Lib.hid hx
  clear hG hb8 hx x0 x1 x2 x3 x4 x5
  obtain ⟨r0, r1, r2, r3, r4⟩ := HRB.out.cells
  have r5 := HRB.out.frozen
  go_wp2_with fail
  have hfin := ((((HRB.out.set0 (.int .i64 x.kind)).set1 (.int .i64 x.num)).set2 (.string x.str)).set3 (.slice A7 x.keys.length c7)).set4 (.slice A8 x.kids.length c8)
  clear r0 r1 r2 r3 r4 r5
  refine ret_cell5_2 rfl rfl rfl hfin.load rfl ?_
  rw [HX.out]
  exact (MadeDoc2.stored HG.out hGn HBW.out HB8.out (by omega) hrl).toS
set_option maxHeartbeats 16000000 in
set_option maxRecDepth 100000 in
theorem rmend_leaf {t : T} {d : D} {tv uv : Value} {w : World} {B : Nat} (h0 : fitsV t d = 0) (hk : ¬ t.kind = 1) (h2 : ¬ t.kind = 2) (h3 : ¬ t.kind = 3) (hr : rightT t = true) (hf : t.Fit) (hfd : d.Fit) (hl : d.keys = [] ∧ d.kids = []) (hB : B ≤ w.heap.size) (ht : TypeV w B t tv) (hd : DocV w B d uv) :
    Calls Tryz.prog 52 #[tv, uv] w (MadeDocS2 w (fun k => k < B) d (.int .i64 0)) := by
  obtain ⟨v0, v1, v2, v3, v4, v5, rfl, hti⟩ := ht
  obtain ⟨u0, u1, u2, u3, u4, rfl, hdi⟩ := hd
  have hall := (rightT_small hr).2.2
  have hok := leastOk_of (show soundT t = true by have h := hall; rw [allT_eq, Bool.and_eq_true] at h; exact h.1)
  have ST := Lib.hid ((TD.start hB hti hdi).next (w' := ((w.alloc (.cells #[v0, v1, v2, v3, v4, v5] 26)).alloc (.cells #[u0, u1, u2, u3, u4] 29)).alloc (.cells #[.int .i64 0, .int .i64 0, .string ⟨#[]⟩, .slice none 0 0, .slice none 0 0] 29)) ((Below.refl _ _).alloc (by simp) _))
  have HR : Hid (Box5 (((w.alloc (.cells #[v0, v1, v2, v3, v4, v5] 26)).alloc (.cells #[u0, u1, u2, u3, u4] 29)).alloc (.cells #[.int .i64 0, .int .i64 0, .string ⟨#[]⟩, .slice none 0 0, .slice none 0 0] 29)) (w.heap.size + 1 + 1) (.int .i64 0) (.int .i64 0) (.string ⟨#[]⟩) (.slice none 0 0) (.slice none 0 0)) := Box5.new' (by simp) _ _ _ _ _
  have hz : (((w.alloc (.cells #[v0, v1, v2, v3, v4, v5] 26)).alloc (.cells #[u0, u1, u2, u3, u4] 29)).alloc (.cells #[.int .i64 0, .int .i64 0, .string ⟨#[]⟩, .slice none 0 0, .slice none 0 0] 29)).heap.size = w.heap.size + 3 := by simp
  obtain ⟨A3, c3, A4, c4, A5, c5, rfl, rfl, rfl, rfl, rfl, rfl⟩ := hti.forms
  obtain ⟨B3, d3, B4, d4, rfl, rfl, rfl, rfl, rfl⟩ := hdi.forms
  have HF := Lib.hid hf; have HFD := Lib.hid hfd; have HOK := Lib.hid hok; have HL := Lib.hid hl
  clear hti hdi hf hfd hall hok hr hl
  have g1 : (t.kind == 1) = false := by simp [hk]
  have g2 : (t.kind == 2) = false := by simp [h2]
  have g3 : (t.kind == 3) = false := by simp [h3]
  have HZ := Lib.hid h0
  clear hk h2 h3 h0
  go_enter Tryz.func52, Tryz.ntmps52
  go_wp2_with fail
  generalize (((w.alloc (.cells #[.int .i64 t.kind, .int .i64 t.lo, .int .i64 t.hi, .slice A3 t.names.length c3, .slice A4 t.fields.length c4, .slice A5 t.of.length c5] 26)).alloc (.cells #[.int .i64 d.kind, .int .i64 d.num, .string d.str, .slice B3 d.keys.length d3, .slice B4 d.kids.length d4] 29)).alloc (.cells #[.int .i64 0, .int .i64 0, .string ⟨#[]⟩, .slice none 0 0, .slice none 0 0] 29)) = w1 at *
  refine (rfits_any HOK.out.kind HF.out HFD.out ST.out.le ST.out.tv ST.out.dv).mono ?_
  rintro e w2 ⟨rfl, hb2⟩
  rw [HZ.out]
  have hz2 := hb2.size
  have ST2 := Lib.hid (ST.out.next (hb2.mono (by omega)))
  obtain ⟨y0, y1, y2, y3, y4⟩ := ST2.out.bd.cells
  have HR2 := Lib.hid (HR.out.same (hb2.block _ (by omega)))
  have hrl : w.heap.size + 1 + 1 < w2.heap.size := by omega
  clear hb2 hz2
  go_upto_region 4 with fail
  obtain ⟨w3, hw3⟩ : ∃ w3, w3 = w2.alloc (.cells #[.int .i64 d.kind, .int .i64 d.num, .string d.str, .slice none 0 0, .slice none 0 0] 29) := ⟨_, rfl⟩
  have HB3 : Hid (Below w2.heap.size w2 w3) := by rw [hw3]; exact (Below.refl _ _).alloc (Nat.le_refl _) _
  have HO3 : Hid (Box5 w3 w2.heap.size (.int .i64 d.kind) (.int .i64 d.num) (.string d.str) (.slice none 0 0) (.slice none 0 0)) := by rw [hw3]; exact Box5.new w2 _ _ _ _ _
  rw [← hw3]
  have hz3 : w3.heap.size = w2.heap.size + 1 := by rw [hw3]; simp
  clear hw3 y0 y1 y2 y3 y4
  have ST3 := Lib.hid (ST2.out.next (HB3.out.mono (by omega)))
  have HR3 := Lib.hid (HR2.out.same (HB3.out.block _ hrl))
  have HBW := Lib.hid ST3.out.bl
  obtain ⟨x0, x1, x2, x3, x4, x5⟩ := ST3.out.bt.cells
  obtain ⟨o0, o1, o2, o3, o4⟩ := HO3.out.cells
  obtain ⟨r0, r1, r2, r3, r4⟩ := HR3.out.cells
  have r5 := HR3.out.frozen
  go_wp2_with fail
  have hfin := ((((HR3.out.set0 (.int .i64 d.kind)).set1 (.int .i64 d.num)).set2 (.string d.str)).set3 (.slice none 0 0)).set4 (.slice none 0 0)
  clear r0 r1 r2 r3 r4 r5
  refine ret_cell5_2 rfl rfl rfl hfin.load rfl ?_
  refine MadeDocS2.stored ?_ HBW.out (by omega) (by omega)
  have hd' : d = .mk d.kind d.num d.str [] [] := by
    obtain ⟨_, _, _, ks, l⟩ := d
    have h1 := HL.out.1; have h2 := HL.out.2
    simp only [D.keys, D.kids] at h1 h2
    subst h1 h2; rfl
  rw [hd']
  simp only [DocS, D.kind, D.num, D.str]
  exact ⟨trivial, trivial, trivial, ⟨none, 0, rfl, Nat.le_refl _, fun h => absurd h (by simp)⟩, ⟨none, 0, rfl, Nat.le_refl _, fun h => absurd h (by simp)⟩⟩
end Go.Proofs.YteecdmceleanjaaGreatDoor
namespace Go.Proofs.YteecdmceleanjaaGreatDoor
open Go.RowKit

theorem strsS_of {w : World} {B : Nat} {S : Nat → Prop} {v : Value} {xs : List ByteArray} (h : Strs w B v xs) (hS : ∀ k, k < B → S k) : StrsS w S v xs := by
  obtain ⟨A, c, e, l, h1⟩ := h
  exact ⟨A, c, e, l, fun hl => let ⟨b, off, e', hb, hc⟩ := h1 hl; ⟨b, off, e', hS b hb, hc⟩⟩
set_option maxHeartbeats 16000000 in
set_option maxRecDepth 100000 in
theorem rmend_kids {m : Nat} (ih : RMendTo m) {t q : T} {d : D} {tv uv : Value} {w : World} {B : Nat} (hk : t.kind = 2 ∨ t.kind = 3) (hof : t.of = [q]) (hm : t.depth ≤ m + 1) (hr : rightT t = true) (hf : t.Fit) (hfd : d.Fit) (h0 : fitsV t d = 0) (hpd : partB d = true) (hds : d.size ≤ 512) (hB : B ≤ w.heap.size) (ht : TypeV w B t tv) (hd : DocV w B d uv) :
    Calls Tryz.prog 52 #[tv, uv] w (MadeDocS2 w (fun k => k < B) (.mk d.kind d.num d.str d.keys ((d.kids.map fun y => q.mend y).map fun z => z.1)) (.int .i64 (((d.kids.map fun y => q.mend y).map fun z => z.2).sum : Nat))) := by
  obtain ⟨v0, v1, v2, v3, v4, v5, rfl, hti⟩ := ht
  obtain ⟨u0, u1, u2, u3, u4, rfl, hdi⟩ := hd
  have hpd' := hpd
  rw [partB_eq, Bool.and_eq_true] at hpd'
  have hok := leastOk_of (show soundT t = true by have h := (rightT_small hr).2.2; rw [allT_eq, Bool.and_eq_true] at h; exact h.1)
  have ST := Lib.hid ((TD.start hB hti hdi).next (w' := ((w.alloc (.cells #[v0, v1, v2, v3, v4, v5] 26)).alloc (.cells #[u0, u1, u2, u3, u4] 29)).alloc (.cells #[.int .i64 0, .int .i64 0, .string ⟨#[]⟩, .slice none 0 0, .slice none 0 0] 29)) ((Below.refl _ _).alloc (by simp) _))
  have HR : Hid (Box5 (((w.alloc (.cells #[v0, v1, v2, v3, v4, v5] 26)).alloc (.cells #[u0, u1, u2, u3, u4] 29)).alloc (.cells #[.int .i64 0, .int .i64 0, .string ⟨#[]⟩, .slice none 0 0, .slice none 0 0] 29)) (w.heap.size + 1 + 1) (.int .i64 0) (.int .i64 0) (.string ⟨#[]⟩) (.slice none 0 0) (.slice none 0 0)) := Box5.new' (by simp) _ _ _ _ _
  have hz : (((w.alloc (.cells #[v0, v1, v2, v3, v4, v5] 26)).alloc (.cells #[u0, u1, u2, u3, u4] 29)).alloc (.cells #[.int .i64 0, .int .i64 0, .string ⟨#[]⟩, .slice none 0 0, .slice none 0 0] 29)).heap.size = w.heap.size + 3 := by simp
  obtain ⟨A3, c3, A4, c4, A5, c5, rfl, rfl, rfl, rfl, rfl, e5⟩ := hti.forms
  obtain ⟨no, hno⟩ : ∃ no, t.of.length = no := ⟨_, rfl⟩
  rw [hno] at e5
  subst e5
  have hno1 : no = 1 := by rw [← hno, hof]; rfl
  obtain ⟨B3, d3, B4, d4, rfl, rfl, rfl, rfl, rfl⟩ := hdi.forms
  have hbd : ((d.kids.map fun y => q.mend y).map fun z => z.2).sum ≤ 65536 := by
    have h := mend_bound hr hpd hds
    rw [mend_eq, if_pos h0, if_neg (by omega), if_pos hk, hof] at h
    exact h
  have HBD := Lib.hid hbd
  have HF := Lib.hid hf; have HFD := Lib.hid hfd; have HRT := Lib.hid hr; have HPARTS := Lib.hid hpd'.2; have HIH := Lib.hid ih; have HM := Lib.hid hm; have HOF := Lib.hid hof; have HDS := Lib.hid hds; have HNO := Lib.hid hno; have HNO1 := Lib.hid hno1; have HZ := Lib.hid h0; have HOK := Lib.hid hok
  have HKEYS := Lib.hid hdi.keys_
  have g1 : (t.kind == 1) = false := by simp; omega
  clear hti hdi hf hfd hr hpd hpd' ih hm hof hds hbd h0 hno hno1 hok
  go_enter Tryz.func52, Tryz.ntmps52
  go_wp2_with fail
  generalize (((w.alloc (.cells #[.int .i64 t.kind, .int .i64 t.lo, .int .i64 t.hi, .slice A3 t.names.length c3, .slice A4 t.fields.length c4, .slice A5 no c5] 26)).alloc (.cells #[.int .i64 d.kind, .int .i64 d.num, .string d.str, .slice B3 d.keys.length d3, .slice B4 d.kids.length d4] 29)).alloc (.cells #[.int .i64 0, .int .i64 0, .string ⟨#[]⟩, .slice none 0 0, .slice none 0 0] 29)) = w1 at *
  refine (rfits_any HOK.out.kind HF.out HFD.out ST.out.le ST.out.tv ST.out.dv).mono ?_
  rintro e w2 ⟨rfl, hb2⟩
  rw [HZ.out]
  have hz2 := hb2.size
  have ST2 := Lib.hid (ST.out.next (hb2.mono (by omega)))
  obtain ⟨y0, y1, y2, y3, y4⟩ := ST2.out.bd.cells
  have HR2 := Lib.hid (HR.out.same (hb2.block _ (by omega)))
  have hrl : w.heap.size + 1 + 1 < w2.heap.size := by omega
  clear hb2 hz2
  go_upto_region 4 with fail
  obtain ⟨w3, hw3⟩ : ∃ w3, w3 = w2.alloc (.cells #[.int .i64 d.kind, .int .i64 d.num, .string d.str, .slice none 0 0, .slice none 0 0] 29) := ⟨_, rfl⟩
  have HB3 : Hid (Below w2.heap.size w2 w3) := by rw [hw3]; exact (Below.refl _ _).alloc (Nat.le_refl _) _
  have HO3 : Hid (Box5 w3 w2.heap.size (.int .i64 d.kind) (.int .i64 d.num) (.string d.str) (.slice none 0 0) (.slice none 0 0)) := by rw [hw3]; exact Box5.new w2 _ _ _ _ _
  rw [← hw3]
  have hz3 : w3.heap.size = w2.heap.size + 1 := by rw [hw3]; simp
  clear hw3 y0 y1 y2 y3 y4
  have ST3 := Lib.hid (ST2.out.next (HB3.out.mono (by omega)))
  have HR3 := Lib.hid (HR2.out.same (HB3.out.block _ hrl))
  obtain ⟨x0, x1, x2, x3, x4, x5⟩ := ST3.out.bt.cells
  obtain ⟨y0, y1, y2, y3, y4⟩ := ST3.out.bd.cells
  obtain ⟨o0, o1, o2, o3, o4⟩ := HO3.out.cells
  have o5 := HO3.out.frozen

  go_upto_if 105 with fail
  go_cut [105] from 107 to 108 (fun s105 wx => s105 = .bool true ∧ wx = w3)
  case first =>
    rcases hk with h2 | h3
    focus
      have g2 : (t.kind == 2) = true := by simp [h2]
      clear h2
      go_wp2_with fail
      go_meet
      first | exact ⟨rfl, rfl⟩ | exact ⟨by rw [g2], rfl⟩ | exact ⟨by rw [g3], rfl⟩
    focus
      have g2 : (t.kind == 2) = false := by simp [h3]
      have g3 : (t.kind == 3) = true := by simp [h3]
      clear h3
      go_wp2_with fail
      go_meet
      first | exact ⟨rfl, rfl⟩ | exact ⟨by rw [g2], rfl⟩ | exact ⟨by rw [g3], rfl⟩
  case rest =>
    obtain ⟨rfl, rfl⟩ := hcut
    clear x0 x1 x2 x3 x4 x5
    go_upto_region 28 with fail
    obtain ⟨w4, hw4⟩ : ∃ w4, w4 = wc.setCell ⟨w2.heap.size, 3, none⟩ (.slice B3 d.keys.length d3) := ⟨_, rfl⟩
    have HO4 : Hid (Box5 w4 w2.heap.size (.int .i64 d.kind) (.int .i64 d.num) (.string d.str) (.slice B3 d.keys.length d3) (.slice none 0 0)) := by rw [hw4]; exact HO3.out.set3 _
    have HB4 : Hid (Below w2.heap.size w2 w4) := by rw [hw4]; exact HB3.out.setCell (by show w2.heap.size ≤ w2.heap.size; omega) _
    have hz4 : w4.heap.size = w2.heap.size + 1 := by rw [hw4]; simp [World.setCell]; omega
    rw [← hw4]
    clear hw4 y0 y1 y2 y3 y4 o0 o1 o2 o3 o4 o5 ST3 HR3 HO3 HB3 hz3
    have ST4 := Lib.hid (ST2.out.next (HB4.out.mono (by omega)))
    have HR4 := Lib.hid (HR2.out.same (HB4.out.block _ hrl))
    have HK4 : Hid (StrsS w4 (fun k => k < B ∧ k < w4.heap.size ∧ k ≠ w2.heap.size) (.slice B3 d.keys.length d3) d.keys) := Lib.hid (strsS_of (B := B) (HKEYS.out.keep fun p hp => ST4.out.bl.cell (p := p) (by omega)) fun k hk => by omega)
    go_wp2_with fail
    go_loopw [7, 14] (fun s7 i wr => ∃ (k : Nat) (v4 : Value) (cs : List Value), k ≤ d.kids.length ∧ s7 = .int .i64 (((((d.kids.take k).map fun y => q.mend y).map fun z => z.2).sum : Nat) : Int) ∧ i = .int .i64 k ∧ DocN w4 wr (fun k => k < B) w2.heap.size d.kind d.num d.str d.keys (((d.kids.take k).map fun y => q.mend y).map fun z => z.1) (.slice B3 d.keys.length d3) v4 cs) (fun _ i _ => d.kids.length - (intOf i).toNat)
    case atStart => exact ⟨0, _, [], Nat.zero_le _, by simp, rfl, HO4.out, HK4.out, World.ownsRow_nil _ _ _ _, rfl, Turned.of_below (Below.refl _ _) _ _⟩
    case round =>
      obtain ⟨k, v4, cs, hk0, rfl, rfl, hst⟩ := hrel
      obtain ⟨SM, hsm⟩ : ∃ SM, (((d.kids.take k).map fun y => q.mend y).map fun z => z.2).sum = SM := ⟨_, rfl⟩
      rw [hsm]
      have HSM := Lib.hid hsm
      have HST := Lib.hid hst
      have hzr := hst.t.size
      clear hst hsm
      have hkl10 : d.kids.length ≤ 10000 := HFD.out.kids
      have HLOW : Hid (∀ j, j < w4.heap.size → j ≠ w2.heap.size → wr.heap[j]? = w4.heap[j]?) := Lib.hid (fun j hj hne => HST.out.t.block j hj (by simp) hne)
      by_cases hlt : k < d.kids.length
      · have keepw : ∀ q : Addr, q.block < w.heap.size → wr.cell? q = w.cell? q := fun q hq => World.cell?_of_block (a := q) ((HLOW.out q.block (by omega) (by omega)).trans (ST4.out.bl.block q.block hq))
        have htin := ST4.out.tin.keep (w' := wr) (Nat.le_refl B) fun q hq => keepw q (by omega)
        have hdin := ST4.out.din.keep (w' := wr) (Nat.le_refl B) fun q hq => keepw q (by omega)
        obtain ⟨A5', c5', e5, _, hofv⟩ := htin.of_
        injection e5 with e51 e52 e53
        subst e51; subst e53
        have hno : t.of.length = no := HNO.out
        have hno1 : no = 1 := HNO1.out
        obtain ⟨bo, off, rfl, hboB, hofw⟩ := hofv (by omega)
        clear hofv keepw
        obtain ⟨z0, z1, z2, z3, z4, z5, g0, g1', g2, g3, g4, g5, hzi⟩ := hofw.at_ 0 (by omega)
        have hx0 : t.of[0]'(by omega) = q := by simp only [HOF.out, List.getElem_cons_zero]
        rw [hx0] at hzi
        simp only [Nat.zero_mul, Nat.add_zero] at g0 g1' g2 g3 g4 g5
        have HZI := Lib.hid hzi
        obtain ⟨X3, x3, X4, x4, X5, x5, rfl, rfl, rfl, rfl, rfl, rfl⟩ := hzi.forms
        obtain ⟨_, _, hkv⟩ := hdin.kids_
        obtain ⟨bk, offk, rfl, hbkB, hkw⟩ := hkv (by omega)
        clear hkv
        obtain ⟨q0, q1, q2, q3, q4, r0, r1, r2, r3, r4, hyi⟩ := hkw.at_ k hlt
        obtain ⟨y, hye⟩ : ∃ y, y = d.kids[k] := ⟨_, rfl⟩
        rw [← hye] at hyi
        simp only [Nat.zero_add] at r0 r1 r2 r3 r4
        have HYI := Lib.hid hyi
        obtain ⟨Y3, y3, Y4, y4, rfl, rfl, rfl, rfl, rfl⟩ := hyi.forms
        obtain ⟨t0, t1, t2, t3, t4, t5⟩ := (ST4.out.bt.same (HLOW.out _ (by omega) (by omega))).cells
        obtain ⟨b0, b1, b2, b3, b4⟩ := (ST4.out.bd.same (HLOW.out _ (by omega) (by omega))).cells
        have hdep : q.depth ≤ m := by have := T.of_depth (t := t) (i := 0) (by omega); rw [hx0] at this; have := HM.out; omega
        have HRX : Hid (rightT q = true) := Lib.hid (rightT_of HRT.out HOF.out)
        have HFX : Hid q.Fit := Lib.hid (by
          have h := HF.out.parts.2.2.2.2.2
          rw [HOF.out] at h
          exact h.at_ (i := 0) (by simp))
        have HFY : Hid y.Fit := Lib.hid (by rw [hye]; exact HFD.out.kid hlt)
        have HPY : Hid (partB y = true) := Lib.hid (by rw [hye]; exact partsB_at HPARTS.out hlt)
        have HSY : Hid (y.size ≤ 512) := Lib.hid (by have h1 := D.size_at d.kids k hlt; have h2 := D.size_eq d; have h3 := HDS.out; rw [← hye] at h1; omega)
        obtain ⟨x, nx, hmx⟩ : ∃ x nx, q.mend y = (x, nx) := ⟨_, _, rfl⟩
        have hnx9 : nx ≤ 65536 := by have h := mend_bound HRX.out HPY.out HSY.out; rw [hmx] at h; exact h
        have HSUC : Hid ((d.kids.take (k + 1)).map (fun y => q.mend y) = (d.kids.take k).map (fun y => q.mend y) ++ [(x, nx)]) := Lib.hid (by rw [List.take_succ_eq_append_getElem hlt, List.map_append, ← hye, List.map_cons, List.map_nil, hmx])
        have hsum : SM ≤ 65536 := by rw [← HSM.out]; exact Nat.le_trans (mendK_sum q d.kids k) HBD.out
        have hik0 : (0 : Int) ≤ (k : Int) := by omega
        have hik1 : (k : Int) < (d.kids.length : Int) := by omega
        have ho1 : (0 : Int) < (no : Int) := by omega
        have ho2 : 0 < no := by omega
        have ho3 : decide ((0 : Int) < (no : Int)) = true := by simpa using ho2
        have ho4 : ¬ (no = 0) := by omega
        have hbol : bo < wr.heap.size := by omega
        have hbkl : bk < wr.heap.size := by omega
        clear hye hzi hyi htin hdin hofw hkw hx0 e52 hno hno1 t0 t1 t2 t3 t4
        go_upto_region 31 with fail
        clear b0 b1 b2 b3
        go_cut [15, 16] from 118 to 131 (fun s15 s16 wx => RKid wr B x nx s15 s16 wx)
        case first =>
          have hn0 : w.heap.size < wr.heap.size := by omega
          have hn1 : w.heap.size + 1 < wr.heap.size := by omega
          have hS : ∀ X : World, Below wr.heap.size wr X → X.cell? ⟨w.heap.size, 5, none⟩ = some (.slice (some ⟨bo, off, none⟩) no c5) ∧ X.cell? ⟨bo, off, none⟩ = some (.int .i64 q.kind) ∧ X.cell? ⟨bo, off + 1, none⟩ = some (.int .i64 q.lo) ∧ X.cell? ⟨bo, off + 2, none⟩ = some (.int .i64 q.hi) ∧ X.cell? ⟨bo, off + 3, none⟩ = some (.slice X3 q.names.length x3) ∧ X.cell? ⟨bo, off + 4, none⟩ = some (.slice X4 q.fields.length x4) ∧ X.cell? ⟨bo, off + 5, none⟩ = some (.slice X5 q.of.length x5) ∧ X.cell? ⟨w.heap.size + 1, 4, none⟩ = some (.slice (some ⟨bk, offk, none⟩) d.kids.length d4) ∧ X.cell? ⟨bk, offk + k * 5, none⟩ = some (.int .i64 y.kind) ∧ X.cell? ⟨bk, offk + k * 5 + 1, none⟩ = some (.int .i64 y.num) ∧ X.cell? ⟨bk, offk + k * 5 + 2, none⟩ = some (.string y.str) ∧ X.cell? ⟨bk, offk + k * 5 + 3, none⟩ = some (.slice Y3 y.keys.length y3) ∧ X.cell? ⟨bk, offk + k * 5 + 4, none⟩ = some (.slice Y4 y.kids.length y4) := fun X h => by
            have hX : ∀ b o, b < wr.heap.size → X.cell? ⟨b, o, none⟩ = wr.cell? ⟨b, o, none⟩ := fun b o hb => h.cell (p := ⟨b, o, none⟩) hb
            exact ⟨(hX _ _ hn0).trans t5, (hX _ _ hbol).trans g0, (hX _ _ hbol).trans g1', (hX _ _ hbol).trans g2, (hX _ _ hbol).trans g3, (hX _ _ hbol).trans g4, (hX _ _ hbol).trans g5, (hX _ _ hn1).trans b4, (hX _ _ hbkl).trans r0, (hX _ _ hbkl).trans r1, (hX _ _ hbkl).trans r2, (hX _ _ hbkl).trans r3, (hX _ _ hbkl).trans r4⟩
          have HS := Lib.hid hS
          have hBz : B ≤ wr.heap.size := by omega
          have hzq : wr.heap.size ≤ (wr.alloc (.cells #[.int .i64 0, .int .i64 0, .string ⟨#[]⟩, .slice none 0 0, .slice none 0 0] 29)).drew.heap.size := by show _ ≤ (World.alloc _ _).heap.size; simp
          have hca := HIH.out q y _ _ wr.drew B hdep HRX.out HFX.out HFY.out HPY.out HSY.out hBz ⟨_, _, _, _, _, _, rfl, TypeIn.keep (w := wr) (w' := wr.drew) (Nat.le_refl _) (fun _ _ => rfl) HZI.out⟩ ⟨_, _, _, _, _, rfl, DocIn.keep (w := wr) (w' := wr.drew) (Nat.le_refl _) (fun _ _ => rfl) HYI.out⟩
          have hcb := HIH.out q y _ _ (wr.alloc (.cells #[.int .i64 0, .int .i64 0, .string ⟨#[]⟩, .slice none 0 0, .slice none 0 0] 29)).drew B hdep HRX.out HFX.out HFY.out HPY.out HSY.out (by omega) ⟨_, _, _, _, _, _, rfl, TypeIn.keep (w := wr) (w' := (wr.alloc (.cells #[.int .i64 0, .int .i64 0, .string ⟨#[]⟩, .slice none 0 0, .slice none 0 0] 29)).drew) (Nat.le_refl _) (fun p hp => World.cell?_alloc_lt wr _ p (by omega)) HZI.out⟩ ⟨_, _, _, _, _, rfl, DocIn.keep (w := wr) (w' := (wr.alloc (.cells #[.int .i64 0, .int .i64 0, .string ⟨#[]⟩, .slice none 0 0, .slice none 0 0] 29)).drew) (Nat.le_refl _) (fun p hp => World.cell?_alloc_lt wr _ p (by omega)) HYI.out⟩
          rw [hmx] at hca hcb
          have HCA := Lib.hid hca; have HCB := Lib.hid hcb
          clear hS hca hcb hmx t5 g0 g1' g2 g3 g4 g5 b4 r0 r1 r2 r3 r4
          go_region_held3 (fun w' => w'.cell? ⟨w.heap.size, 5, none⟩ = some (.slice (some ⟨bo, off, none⟩) no c5) ∧ w'.cell? ⟨bo, off, none⟩ = some (.int .i64 q.kind) ∧ w'.cell? ⟨bo, off + 1, none⟩ = some (.int .i64 q.lo) ∧ w'.cell? ⟨bo, off + 2, none⟩ = some (.int .i64 q.hi) ∧ w'.cell? ⟨bo, off + 3, none⟩ = some (.slice X3 q.names.length x3) ∧ w'.cell? ⟨bo, off + 4, none⟩ = some (.slice X4 q.fields.length x4) ∧ w'.cell? ⟨bo, off + 5, none⟩ = some (.slice X5 q.of.length x5) ∧ w'.cell? ⟨w.heap.size + 1, 4, none⟩ = some (.slice (some ⟨bk, offk, none⟩) d.kids.length d4) ∧ w'.cell? ⟨bk, offk + k * 5, none⟩ = some (.int .i64 y.kind) ∧ w'.cell? ⟨bk, offk + k * 5 + 1, none⟩ = some (.int .i64 y.num) ∧ w'.cell? ⟨bk, offk + k * 5 + 2, none⟩ = some (.string y.str) ∧ w'.cell? ⟨bk, offk + k * 5 + 3, none⟩ = some (.slice Y3 y.keys.length y3) ∧ w'.cell? ⟨bk, offk + k * 5 + 4, none⟩ = some (.slice Y4 y.kids.length y4))
            ((with_reducible refine HS.out _ ?_; repeat (first | with_reducible exact Below.refl _ _ | with_reducible exact hB5 | with_reducible refine Below.drew ?_ | (with_reducible refine Below.alloc ?_ ?_ _; rotate_left; (focus (first | omega | (simp; done) | (simp; omega)))) | (with_reducible refine Below.setCell ?_ ?_ _; rotate_left; (focus (first | (show wr.heap.size ≤ wr.heap.size; omega) | (show wr.heap.size ≤ w5.heap.size; omega) | (simp; omega)))))))
            ((first
              | (go_at_call 52
                 refine HCA.out.mono ?_
                 rintro e w5 ⟨y0, y1, y2, y3', y4', rfl, hG, hb5⟩
                 obtain ⟨A7, c7, A8, c8, rfl, rfl, rfl, rfl, rfl⟩ := hG.forms
                 have hB5 : Below wr.heap.size wr w5 := (Below.refl wr.heap.size wr).drew.trans hb5
                 obtain ⟨hc5, hf5⟩ := below_add hb5; have hz5 := hB5.size
                 have hG' : DocS w5 (fun k => (k < B ∨ wr.heap.size ≤ k) ∧ k < w5.heap.size) x (.int .i64 x.kind) (.int .i64 x.num) (.string x.str) (.slice A7 x.keys.length c7) (.slice A8 x.kids.length c8) := hG
                 have HG := Lib.hid hG'
                 clear hG hG')
              | (go_at_call 52
                 refine HCB.out.mono ?_
                 rintro e w5 ⟨y0, y1, y2, y3', y4', rfl, hG, hb5⟩
                 obtain ⟨A7, c7, A8, c8, rfl, rfl, rfl, rfl, rfl⟩ := hG.forms
                 have hB5 : Below wr.heap.size wr w5 := (((Below.refl wr.heap.size wr).alloc (Nat.le_refl _) (.cells #[.int .i64 0, .int .i64 0, .string ⟨#[]⟩, .slice none 0 0, .slice none 0 0] 29)).drew).trans (hb5.mono hzq)
                 obtain ⟨hc5, hf5⟩ := below_add hb5; have hz5 := hB5.size
                 have HG := Lib.hid hG
                 clear hG)))
          all_goals (go_wp2_with fail)
          all_goals go_meet
          all_goals first
            | with_reducible exact RKid.late hB5 HG.out
            | with_reducible exact RKid.early hb5 HG.out hBz rfl
        case rest =>
          obtain ⟨kb, A7, c7, A8, c8, rfl, rfl, hkb, hkbx, hG, hbx9⟩ := hcut
          generalize wc = w10 at *
          have HG := Lib.hid hG
          have HST9 := Lib.hid (HST.out.past hbx9)
          have hl4 := HST.out.o4.lt
          have hzx := hbx9.size
          have hbxl : w2.heap.size < w10.heap.size := by omega
          obtain ⟨q0, q1, q2, q3, q4⟩ := HST9.out.bx.cells
          have q5 := HST9.out.bx.frozen
          obtain ⟨n0, n1, n2, n3, n4⟩ := hkbx.cells
          have ag4 : v4.ownBlock ≠ some w2.heap.size := fun h => by have := (hl4 _ h).1; omega
          have hll : (((d.kids.take k).map fun y => q.mend y).map fun z => z.1).length ≤ 10000 := by have := List.length_take_le k d.kids; simp only [List.length_map]; omega
          have HKS : Hid (∀ j, (j < B ∨ wr.heap.size ≤ j) ∧ j < w10.heap.size → MKid w4 w10 (fun k => k < B) w2.heap.size (.slice none 0 0) v4 j) := Lib.hid (fun j hj => ⟨by omega, hj.2, by omega, by simp [Value.ownBlock], fun e => by have := hl4 _ e; omega⟩)
          have HS2 : Hid (((d.kids.take (k + 1)).map fun y => q.mend y).map (fun z => z.1) = ((d.kids.take k).map fun y => q.mend y).map (fun z => z.1) ++ [x]) := Lib.hid (by rw [HSUC.out, List.map_append]; rfl)
          have HS3 : Hid ((((d.kids.take (k + 1)).map fun y => q.mend y).map fun z => z.2).sum = (((d.kids.take k).map fun y => q.mend y).map fun z => z.2).sum + nx) := Lib.hid (by rw [HSUC.out, List.map_append, List.sum_append]; simp)
          have HCSL : Hid (w10.ownsRow w4.heap.size 29 5 v4 (((d.kids.take k).map fun y => q.mend y).map fun z => z.1).length cs) := Lib.hid HST9.out.o4
          obtain ⟨LS, hls⟩ : ∃ LS, ((d.kids.take k).map fun y => q.mend y).map (fun z => z.1) = LS := ⟨_, rfl⟩
          rw [hls] at HST9 HCSL HS2 hll
          rw [HSM.out] at HS3
          obtain ⟨j0, hj9, hy0, hy1, hy2⟩ := info_parts infoD
          have HJ := Lib.hid hj9; have HJ0 := Lib.hid hy0; have HJ1 := Lib.hid hy1; have HJ2 := Lib.hid hy2
          have hw3 : w4.heap.size ≤ w10.heap.size := by omega
          clear hj9 hy0 hy1 hy2 hls hG hkbx hbx9 hmx t5 g0 g1' g2 g3 g4 g5 b4 r0 r1 r2 r3 r4
          go_wp2_with (at_builtin; refine wpList_append_lies _ rfl _ _ 27 rfl w4.heap.size 29 j0 (.agg #[.int .i64 0, .int .i64 0, .string ByteArray.empty, .slice none 0 0, .slice none 0 0]) 5 80 Tryz.underlying27 HJ.out HJ0.out HJ1.out HJ2.out (by rfl) (by omega) v4 LS.length cs rfl (HCSL.out.alloc _) ⟨w10.heap.size, 0, none⟩ 1 _ [.int .i64 x.kind, .int .i64 x.num, .string x.str, .slice A7 x.keys.length c7, .slice A8 x.kids.length c8] rfl rfl (World.news_of_block (cs := #[.int .i64 x.kind, .int .i64 x.num, .string x.str, .slice A7 x.keys.length c7, .slice A8 x.kids.length c8]) (t := 29) (fr := (0, 0)) (heap_alloc_new w10 _)) (by simp [Value.oneCell']) (by omega) (by unfold maxLen; omega) (by omega) (by simp; omega) (w10.heap.size + 1) (by simp) ?_; intro g8 cap8 w8' hown8 hgrow8 hat8 hlt8; have mf8 : w8'.frozen? ⟨w2.heap.size, 4, none⟩ = false := ((hgrow8.frozen_far ⟨w2.heap.size, 4, none⟩ (by simp; omega) (Ne.symm ag4)).trans ((frozen_alloc_lt hbxl _ 4).trans (q5 4))); have m48 := (hgrow8.cell_far ⟨w2.heap.size, 4, none⟩ (by simp; omega) (Ne.symm ag4)).trans ((cell_alloc_lt' hbxl _ 4).trans q4))
          refine ⟨⟨k + 1, _, _, by omega, by rw [HS3.out]; go_num, by go_num, by rw [HS2.out]; exact HST9.out.kid (by omega) (Below.refl _ _) HG.out HKS.out hown8 _ hgrow8 hat8⟩, by simp [intOf]; omega⟩
      · have hkl : k = d.kids.length := by omega
        subst hkl
        have hst2 := HST.out
        rw [List.take_length] at hst2
        have HST2 := Lib.hid hst2
        have hsme : ((d.kids.map fun y => q.mend y).map fun z => z.2).sum = SM := by have h := HSM.out; rw [List.take_length] at h; exact h
        have HSME := Lib.hid hsme
        clear hsme
        have HRR := Lib.hid (HR4.out.same (HST.out.t.block (w.heap.size + 1 + 1) (by omega) (by simp) (by omega)))
        clear hst2
        obtain ⟨q0, q1, q2, q3, q4⟩ := HST2.out.bx.cells
        obtain ⟨b0, b1, b2, b3, b4⟩ := (ST4.out.bd.same (HLOW.out _ (by omega) (by omega))).cells
        obtain ⟨r0, r1, r2, r3, r4⟩ := HRR.out.cells
        have r5 := HRR.out.frozen
        obtain ⟨A7, c7, rfl⟩ := ownsRow_slice HST2.out.o4
        obtain ⟨LS, hls⟩ : ∃ LS, (d.kids.map fun y => q.mend y).map (fun z => z.1) = LS := ⟨_, rfl⟩
        rw [hls] at HST2 q4
        have HLS := Lib.hid hls
        clear hls
        go_wp2_with fail
        have hfin := ((((HRR.out.set0 (.int .i64 d.kind)).set1 (.int .i64 d.num)).set2 (.string d.str)).set3 (.slice B3 d.keys.length d3)).set4 (.slice A7 LS.length c7)
        clear q0 q1 q2 q3 q4 r0 r1 r2 r3 r4 r5 b0 b1 b2 b3 b4
        refine ret_cell5_2 rfl rfl rfl hfin.load rfl ?_
        have hmd := rmend_outN (w := w) (u := .int .i64 (SM : Nat)) HST2.out rfl (by omega) (r := w.heap.size + 1 + 1) (by omega) (by omega) (by omega) ST4.out.bl
        rw [HLS.out, HSME.out]
        exact hmd
end Go.Proofs.YteecdmceleanjaaGreatDoor
namespace Go.Proofs.YteecdmceleanjaaGreatDoor
open Go.RowKit

theorem moreV_take' (t : T) (ks : List ByteArray) (k : Nat) (h : k < ks.length) : (moreV t (ks.take (k + 1))).length = (moreV t (ks.take k)).length + (if fieldOf t ks[k] < 0 then 1 else 0) := by
  rw [moreV_take t ks k h, List.length_append]
  congr 1
  split <;> rfl
set_option maxHeartbeats 16000000 in
set_option maxRecDepth 100000 in
theorem rmend_fields {m : Nat} (ih : RMendTo m) {t : T} {d : D} {tv uv : Value} {w : World} {B : Nat} (hk : t.kind = 1) (hdk : d.kind = 1) (hm : t.depth ≤ m + 1) (hr : rightT t = true) (hf : t.Fit) (hfd : d.Fit) (h0 : fitsV t d = 0) (hpd : partB d = true) (hds : d.size ≤ 512) (hB : B ≤ w.heap.size) (ht : TypeV w B t tv) (hd : DocV w B d uv) :
    Calls Tryz.prog 52 #[tv, uv] w (MadeDocS2 w (fun k => k < B) (.mk d.kind d.num d.str ((mendF t.fields d).map fun x => x.1) ((mendF t.fields d).map fun x => x.2.1)) (.int .i64 ((moreV t d.keys).length + ((mendF t.fields d).map fun x => x.2.2).sum : Nat))) := by
  obtain ⟨v0, v1, v2, v3, v4, v5, rfl, hti⟩ := ht
  obtain ⟨u0, u1, u2, u3, u4, rfl, hdi⟩ := hd
  have hpd' := hpd
  rw [partB_eq, Bool.and_eq_true] at hpd'
  have hok := leastOk_of (show soundT t = true by have h := (rightT_small hr).2.2; rw [allT_eq, Bool.and_eq_true] at h; exact h.1)
  have ST := Lib.hid ((TD.start hB hti hdi).next (w' := ((w.alloc (.cells #[v0, v1, v2, v3, v4, v5] 26)).alloc (.cells #[u0, u1, u2, u3, u4] 29)).alloc (.cells #[.int .i64 0, .int .i64 0, .string ⟨#[]⟩, .slice none 0 0, .slice none 0 0] 29)) ((Below.refl _ _).alloc (by simp) _))
  have HR : Hid (Box5 (((w.alloc (.cells #[v0, v1, v2, v3, v4, v5] 26)).alloc (.cells #[u0, u1, u2, u3, u4] 29)).alloc (.cells #[.int .i64 0, .int .i64 0, .string ⟨#[]⟩, .slice none 0 0, .slice none 0 0] 29)) (w.heap.size + 1 + 1) (.int .i64 0) (.int .i64 0) (.string ⟨#[]⟩) (.slice none 0 0) (.slice none 0 0)) := Box5.new' (by simp) _ _ _ _ _
  have hz : (((w.alloc (.cells #[v0, v1, v2, v3, v4, v5] 26)).alloc (.cells #[u0, u1, u2, u3, u4] 29)).alloc (.cells #[.int .i64 0, .int .i64 0, .string ⟨#[]⟩, .slice none 0 0, .slice none 0 0] 29)).heap.size = w.heap.size + 3 := by simp
  obtain ⟨A3, c3, A4, c4, A5, c5, rfl, rfl, rfl, rfl, rfl, rfl⟩ := hti.forms
  obtain ⟨B3, d3, B4, d4, rfl, rfl, rfl, rfl, rfl⟩ := hdi.forms
  have hkk := (docOk_of hpd'.1).same (.inl hdk)
  have hbd : ((mendF t.fields d).map fun x => x.2.2).sum ≤ 65536 := by
    have h := mend_bound hr hpd hds
    rw [mend_eq, if_pos h0, if_pos hk] at h
    simp only at h
    omega
  have HBD := Lib.hid hbd
  have HF := Lib.hid hf; have HFD := Lib.hid hfd; have HRT := Lib.hid hr; have HPARTS := Lib.hid hpd'.2; have HIH := Lib.hid ih; have HM := Lib.hid hm; have HDS := Lib.hid hds; have HKK := Lib.hid hkk; have HZ := Lib.hid h0; have HOK := Lib.hid hok
  have g1 : (t.kind == 1) = true := by simp [hk]
  clear hti hdi hf hfd hr hpd hpd' ih hm hds hbd h0 hok hk hdk hkk
  go_enter Tryz.func52, Tryz.ntmps52
  go_wp2_with fail
  generalize (((w.alloc (.cells #[.int .i64 t.kind, .int .i64 t.lo, .int .i64 t.hi, .slice A3 t.names.length c3, .slice A4 t.fields.length c4, .slice A5 t.of.length c5] 26)).alloc (.cells #[.int .i64 d.kind, .int .i64 d.num, .string d.str, .slice B3 d.keys.length d3, .slice B4 d.kids.length d4] 29)).alloc (.cells #[.int .i64 0, .int .i64 0, .string ⟨#[]⟩, .slice none 0 0, .slice none 0 0] 29)) = w1 at *
  refine (rfits_any HOK.out.kind HF.out HFD.out ST.out.le ST.out.tv ST.out.dv).mono ?_
  rintro e w2 ⟨rfl, hb2⟩
  rw [HZ.out]
  have hz2 := hb2.size
  have ST2 := Lib.hid (ST.out.next (hb2.mono (by omega)))
  obtain ⟨y0, y1, y2, y3, y4⟩ := ST2.out.bd.cells
  have HR2 := Lib.hid (HR.out.same (hb2.block _ (by omega)))
  have hrl : w.heap.size + 1 + 1 < w2.heap.size := by omega
  clear hb2 hz2
  go_upto_region 4 with fail
  obtain ⟨w3, hw3⟩ : ∃ w3, w3 = w2.alloc (.cells #[.int .i64 d.kind, .int .i64 d.num, .string d.str, .slice none 0 0, .slice none 0 0] 29) := ⟨_, rfl⟩
  have HB3 : Hid (Below w2.heap.size w2 w3) := by rw [hw3]; exact (Below.refl _ _).alloc (Nat.le_refl _) _
  have HO3 : Hid (Box5 w3 w2.heap.size (.int .i64 d.kind) (.int .i64 d.num) (.string d.str) (.slice none 0 0) (.slice none 0 0)) := by rw [hw3]; exact Box5.new w2 _ _ _ _ _
  rw [← hw3]
  have hz3 : w3.heap.size = w2.heap.size + 1 := by rw [hw3]; simp
  clear hw3 y0 y1 y2 y3 y4
  have ST3 := Lib.hid (ST2.out.next (HB3.out.mono (by omega)))
  have HR3 := Lib.hid (HR2.out.same (HB3.out.block _ hrl))
  obtain ⟨x0, x1, x2, x3, x4, x5⟩ := ST3.out.bt.cells
  go_wp2_with fail
  clear x0 x1 x2 x3 x4 x5
  go_loopw [7, 8] (fun s7 i wr => ∃ (k : Nat) (v3 v4 : Value) (cs : List Value), k ≤ t.fields.length ∧ s7 = .int .i64 ((((mendF (t.fields.take k) d).map fun x => x.2.2).sum : Nat) : Int) ∧ i = .int .i64 k ∧ DocM w3 wr (fun k => k < B) w2.heap.size d.kind d.num d.str ((mendF (t.fields.take k) d).map fun x => x.1) ((mendF (t.fields.take k) d).map fun x => x.2.1) v3 v4 cs) (fun _ i _ => t.fields.length - (intOf i).toNat)
  case atStart => exact ⟨0, _, _, [], Nat.zero_le _, by simp [mendF], rfl, HO3.out, World.ownsRow_nil _ _ _ _, World.ownsRow_nil _ _ _ _, rfl, by simp [Value.ownBlock], Turned.of_below (Below.refl _ _) _ _⟩
  case round =>
    obtain ⟨k, v3, v4, cs, hk0, rfl, rfl, hst⟩ := hrel
    have HST := Lib.hid hst
    have hzr := hst.t.size
    clear hst
    have hfl10 : t.fields.length ≤ 10000 := HF.out.parts.2.1
    have HLOW : Hid (∀ j, j < w3.heap.size → j ≠ w2.heap.size → wr.heap[j]? = w3.heap[j]?) := Lib.hid (fun j hj hne => HST.out.t.block j hj (by simp) hne)
    by_cases hlt : k < t.fields.length
    · have keepw : ∀ q : Addr, q.block < w.heap.size → wr.cell? q = w.cell? q := fun q hq => World.cell?_of_block (a := q) ((HLOW.out q.block (by omega) (by omega)).trans (ST3.out.bl.block q.block hq))
      have htin := ST3.out.tin.keep (w' := wr) (Nat.le_refl B) fun q hq => keepw q (by omega)
      have hdin := ST3.out.din.keep (w' := wr) (Nat.le_refl B) fun q hq => keepw q (by omega)
      have HDIN := Lib.hid hdin
      obtain ⟨A', c', e5, _, hfv⟩ := htin.fields_
      injection e5 with e51 e52 e53
      subst e51; subst e53
      obtain ⟨bo, off, rfl, hboB, hfw⟩ := hfv (by omega)
      clear hfv e52 keepw
      obtain ⟨f, hfe⟩ : ∃ f, f = t.fields[k] := ⟨_, rfl⟩
      obtain ⟨g0, g1', z0, z1, z2, z3, z4, z5, g2, g3, g4, g5, g6, g7, hzi⟩ := hfw.at_ k hlt
      rw [← hfe] at g0 g1' hzi
      simp only [Nat.zero_add] at g0 g1' g2 g3 g4 g5 g6 g7
      have HZI := Lib.hid hzi
      obtain ⟨X3, x3, X4, x4, X5, x5, rfl, rfl, rfl, rfl, rfl, rfl⟩ := hzi.forms
      obtain ⟨t0, t1, t2, t3, t4, t5⟩ := (ST3.out.bt.same (HLOW.out _ (by omega) (by omega))).cells
      have hdep : f.type.depth ≤ m := by have := T.field_depth (t := t) (i := k) hlt; rw [← hfe] at this; have := HM.out; omega
      have HRX : Hid (rightT f.type = true) := Lib.hid (by rw [hfe]; exact rightT_field HRT.out hlt)
      have HFX : Hid f.type.Fit := Lib.hid (by rw [hfe]; exact (HF.out.parts.2.2.2.2.1.at_ hlt).type)
      have HSUC : Hid (mendF (t.fields.take (k + 1)) d = mendF (t.fields.take k) d ++ mendF1 f d) := Lib.hid (by rw [mendF_take _ _ _ hlt, hfe])
      have hik0 : (0 : Int) ≤ (k : Int) := by omega
      have hik1 : (k : Int) < (t.fields.length : Int) := by omega
      have hbol : bo < wr.heap.size := by omega
      clear hfe hzi htin hdin hfw
      go_upto_region 11 with fail
      obtain ⟨wz, hwz⟩ : ∃ wz, wz = wr.alloc (.cells #[.string f.name, .bool f.opt, .int .i64 f.type.kind, .int .i64 f.type.lo, .int .i64 f.type.hi, .slice X3 f.type.names.length x3, .slice X4 f.type.fields.length x4, .slice X5 f.type.of.length x5] 48) := ⟨_, rfl⟩
      have HBZ : Hid (Below wr.heap.size wr wz) := by rw [hwz]; exact (Below.refl _ _).alloc (Nat.le_refl _) _
      have HKB : Hid (Box8 wz wr.heap.size f.name f.opt (.int .i64 f.type.kind) (.int .i64 f.type.lo) (.int .i64 f.type.hi) (.slice X3 f.type.names.length x3) (.slice X4 f.type.fields.length x4) (.slice X5 f.type.of.length x5)) := by rw [hwz]; exact heap_alloc_new wr _
      have hzz : wz.heap.size = wr.heap.size + 1 := by rw [hwz]; simp
      rw [← hwz]
      clear hwz t0 t1 t2 t3 t4 t5 g0 g1' g2 g3 g4 g5 g6 g7
      obtain ⟨k0, k1, k2, k3, k4, k5, k6, k7⟩ := HKB.out.cells
      have HZZ := Lib.hid (HZI.out.keep (Nat.le_refl B) fun q hq => HBZ.out.cell (p := q) (by omega))
      have HDZ := Lib.hid (HDIN.out.keep (Nat.le_refl B) fun q hq => HBZ.out.cell (p := q) (by omega))
      have hBz : B ≤ wz.heap.size := by omega
      have hkl10 := HFD.out.keys
      obtain ⟨b0, b1, b2, b3, b4⟩ := (ST3.out.bd.same ((HBZ.out.block _ (by omega)).trans (HLOW.out _ (by omega) (by omega)))).cells
      go_wp2_with fail
      go_at_call 71
      refine (rkey_any (B := B) (w := wz) hBz ⟨_, _, _, _, _, rfl, HDZ.out⟩ hkl10).mono ?_
      rintro e wa ⟨rfl, hba⟩
      obtain ⟨ix, hix⟩ : ∃ ix, ix = Lib.idxOfS d.keys f.name := ⟨_, rfl⟩
      rw [← hix]
      have HIX := Lib.hid hix
      have hza := hba.size
      have HBA := Lib.hid (HBZ.out.trans (hba.mono (by omega)))
      have HZA := Lib.hid hba
      have HFA := Lib.hid (HKB.out.same (hba.block _ (by omega)))
      have HTA := Lib.hid (HZZ.out.keep (w' := wa) (Nat.le_refl B) fun q hq => hba.cell (p := q) (by omega))
      clear hba hix k0 k1 k2 k3 k4 k5 k6 k7 b0 b1 b2 b3 b4
      obtain ⟨k0, k1, k2, k3, k4, k5, k6, k7⟩ := HFA.out.cells
      by_cases hskip : ix < 0 ∧ f.opt = true
      · have HNS : Hid (mendF (t.fields.take (k + 1)) d = mendF (t.fields.take k) d) := Lib.hid (by
          rw [HSUC.out, mendF1_eq, ← HIX.out, if_neg (by omega), if_pos hskip.2, List.append_nil])
        have h1 := hskip.1
        have hdx : decide (ix < 0) = true := by simp; omega
        have hopt := hskip.2
        rw [hopt] at k1
        clear hskip hopt
        go_wp2_with fail
        refine ⟨⟨k + 1, v3, v4, cs, by omega, by rw [HNS.out], by go_num, by rw [HNS.out]; exact HST.out.past HBA.out⟩, by simp [intOf]; omega⟩
      go_upto_region 12 with fail
      go_cut [55] from 50 to 54 (fun s55 wx => s55 = .bool false ∧ wx = wa)
      case first =>
        by_cases hneg : ix < 0
        · have hopt : f.opt = false := by
            cases h : f.opt
            · rfl
            · exact absurd ⟨hneg, h⟩ hskip
          rw [hopt] at k1
          have hdx : decide (ix < 0) = true := by simp; omega
          clear hskip hopt
          go_wp2_with fail
          go_meet
          exact ⟨rfl, rfl⟩
        · have hdx : decide (ix < 0) = false := by simp; omega
          have hnx : ¬ ix < 0 := hneg
          clear hskip
          go_wp2_with fail
          go_meet
          exact ⟨rfl, rfl⟩
      case rest =>
        obtain ⟨rfl, rfl⟩ := hcut
        have HCL := Lib.hid (rleasts_any f.type.depth f.type (.agg #[.int .i64 f.type.kind, .int .i64 f.type.lo, .int .i64 f.type.hi, .slice X3 f.type.names.length x3, .slice X4 f.type.fields.length x4, .slice X5 f.type.of.length x5]) wc B (Nat.le_refl _) (rightT_small HRX.out).2.2 HFX.out (by omega) ⟨_, _, _, _, _, _, rfl, HTA.out⟩)
        obtain ⟨x, nx, hm1, hm2⟩ : ∃ x nx, mendF1 f d = [(f.name, x, nx)] ∧ nx ≤ 65536 := by
          rw [mendF1_eq, ← HIX.out]
          by_cases h : 0 ≤ ix
          · rw [if_pos h]
            have hj : ix.toNat < d.kids.length := by
              have h1 := idxOfS_lt d.keys f.name (by rw [← HIX.out]; exact h)
              rw [← HIX.out, HKK.out] at h1; omega
            refine ⟨_, _, rfl, mend_bound HRX.out ?_ ?_⟩
            · rw [List.getD_eq_getElem?_getD, List.getElem?_eq_getElem hj, Option.getD_some]; exact partsB_at HPARTS.out hj
            · rw [List.getD_eq_getElem?_getD, List.getElem?_eq_getElem hj, Option.getD_some]
              have h1 := D.size_at d.kids _ hj; have h2 := D.size_eq d; have h3 := HDS.out; omega
          · rw [if_neg h, if_neg (fun ho => hskip ⟨by omega, ho⟩)]
            exact ⟨_, _, rfl, by omega⟩
        have HM1 := Lib.hid hm1
        clear hm1 hskip
        go_wp2_with fail
        go_at_call 85
        refine HCL.out.mono ?_
        rintro e w8 ⟨y0, y1, y2, y3', y4', G, rfl, hG, hGn, hb8⟩
        obtain ⟨l, hl⟩ : ∃ l, l = f.type.least := ⟨_, rfl⟩
        rw [← hl] at hG
        have HL := Lib.hid hl
        obtain ⟨A7, c7, A8, c8, rfl, rfl, rfl, rfl, rfl⟩ := hG.doc.forms
        have hb8' : Below wr.heap.size wr w8 := HBA.out.trans (hb8.mono (by omega))
        have hz8 := hb8.size
        have HG8 := Lib.hid hG.docS
        have HB8 := Lib.hid hb8'
        have HZ8 := Lib.hid (HZA.out.trans (hb8.mono (by omega)))
        have HF8 := Lib.hid (HFA.out.same (hb8.block _ (by omega)))
        clear hl hG hGn hb8 hb8' k0 k1 k2 k3 k4 k5 k6 k7 HTA
        go_upto_region 14 with fail
        obtain ⟨w9, hw9⟩ : ∃ w9, w9 = w8.alloc (.cells #[.int .i64 l.kind, .int .i64 l.num, .string l.str, .slice A7 l.keys.length c7, .slice A8 l.kids.length c8] 29) := ⟨_, rfl⟩
        have HN9 : Hid (Below w8.heap.size w8 w9) := by rw [hw9]; exact (Below.refl _ _).alloc (Nat.le_refl _) _
        have HX9 : Hid (Box5 w9 w8.heap.size (.int .i64 l.kind) (.int .i64 l.num) (.string l.str) (.slice A7 l.keys.length c7) (.slice A8 l.kids.length c8)) := by rw [hw9]; exact Box5.new w8 _ _ _ _ _
        have hz9 : w9.heap.size = w8.heap.size + 1 := by rw [hw9]; simp
        rw [← hw9]
        clear hw9
        have HB9 := Lib.hid (HB8.out.trans (HN9.out.mono (by omega)))
        have HZ9 := Lib.hid (HZ8.out.trans (HN9.out.mono (by omega)))
        have HF9 := Lib.hid (HF8.out.same (HN9.out.block _ (by omega)))
        have HG9 : Hid (DocS w9 (fun k => (k < B ∨ wz.heap.size ≤ k) ∧ k < w8.heap.size) l (.int .i64 l.kind) (.int .i64 l.num) (.string l.str) (.slice A7 l.keys.length c7) (.slice A8 l.kids.length c8)) := Lib.hid (HG8.out.keep (fun k hk => ⟨.inr (by omega), hk.2⟩) fun p hp => HN9.out.cell (p := p) hp.2)
        go_upto_if 60 with fail
        go_cut [12] from 60 to 71 (fun s12 wx => s12 = .int .i64 nx ∧ ∃ (A5 : Option Addr) (c5 : Nat) (A6 : Option Addr) (c6 : Nat), Box5 wx w8.heap.size (.int .i64 x.kind) (.int .i64 x.num) (.string x.str) (.slice A5 x.keys.length c5) (.slice A6 x.kids.length c6) ∧ DocS wx (fun k => (k < B ∨ wz.heap.size ≤ k) ∧ k < wx.heap.size ∧ k ≠ w8.heap.size) x (.int .i64 x.kind) (.int .i64 x.num) (.string x.str) (.slice A5 x.keys.length c5) (.slice A6 x.kids.length c6) ∧ Below wz.heap.size wz wx ∧ w9.heap.size ≤ wx.heap.size)
        case first =>
          by_cases hneg : ix < 0
          · have hn0 : ¬ (0 : Int) ≤ ix := by omega
            have hdx : decide ((0 : Int) ≤ ix) = false := by simp; omega
            have hxx : x = l ∧ nx = 1 := by
              have hm := HM1.out
              rw [mendF1_eq, ← HIX.out, if_neg hn0] at hm
              split at hm
              · cases hm
              rw [← HL.out] at hm
              injection hm with hm _
              injection hm with _ hm
              injection hm with hm3 hm4
              exact ⟨hm3.symm, hm4.symm⟩
            obtain ⟨hm3, hm4⟩ := hxx
            subst hm3 hm4
            go_wp2_with fail
            go_meet
            exact ⟨rfl, _, _, _, _, HX9.out, HG9.out.keep (fun k hk => ⟨hk.1, by omega, by omega⟩) (fun _ _ => rfl), HZ9.out, Nat.le_refl _⟩
          · have hn0 : (0 : Int) ≤ ix := by omega
            have hdx : decide ((0 : Int) ≤ ix) = true := by simp; omega
            obtain ⟨j, hj⟩ : ∃ j : Nat, ix = (j : Int) := ⟨ix.toNat, by omega⟩
            have hjk : j < d.kids.length := by
              have h1 := idxOfS_lt d.keys f.name (by rw [← HIX.out]; exact hn0)
              rw [← HIX.out, HKK.out] at h1; omega
            obtain ⟨y, hye⟩ : ∃ y, y = d.kids[j] := ⟨_, rfl⟩
            have hmx : f.type.mend y = (x, nx) := by
              have hm := HM1.out
              rw [mendF1_eq, ← HIX.out, if_pos hn0, hj, List.getD_eq_getElem?_getD, Int.toNat_natCast, List.getElem?_eq_getElem hjk, ← hye, Option.getD_some] at hm
              injection hm with hm _
              injection hm with _ hm
            have HD9 := Lib.hid (HDIN.out.keep (w' := w9) (Nat.le_refl B) fun q hq => HB9.out.cell (p := q) (by omega))
            have HT9 := Lib.hid (HZI.out.keep (w' := w9) (Nat.le_refl B) fun q hq => HB9.out.cell (p := q) (by omega))
            obtain ⟨_, _, hkv⟩ := HD9.out.kids_
            obtain ⟨bk, offk, rfl, hbkB, hkw⟩ := hkv (by omega)
            clear hkv
            obtain ⟨q0, q1, q2, q3, q4, r0, r1, r2, r3, r4, hyi⟩ := hkw.at_ j hjk
            rw [← hye] at hyi
            simp only [Nat.zero_add] at r0 r1 r2 r3 r4
            have HYI := Lib.hid hyi
            obtain ⟨Y3, y3, Y4, y4, rfl, rfl, rfl, rfl, rfl⟩ := hyi.forms
            have HFY : Hid (y.Fit) := Lib.hid (by rw [hye]; exact HFD.out.kid hjk)
            have HPY : Hid (partB y = true) := Lib.hid (by rw [hye]; exact partsB_at HPARTS.out hjk)
            have HSY : Hid (y.size ≤ 512) := Lib.hid (by have h1 := D.size_at d.kids j hjk; have h2 := D.size_eq d; have h3 := HDS.out; rw [← hye] at h1; omega)
            have hcall := HIH.out f.type y _ _ w9.drew B hdep HRX.out HFX.out HFY.out HPY.out HSY.out (by show B ≤ w9.heap.size; omega) ⟨_, _, _, _, _, _, rfl, TypeIn.keep (w := w9) (w' := w9.drew) (Nat.le_refl _) (fun _ _ => rfl) HT9.out⟩ ⟨_, _, _, _, _, rfl, DocIn.keep (w := w9) (w' := w9.drew) (Nat.le_refl _) (fun _ _ => rfl) HYI.out⟩
            rw [hmx] at hcall
            have HCALL := Lib.hid hcall
            obtain ⟨k0, k1, k2, k3, k4, k5, k6, k7⟩ := HF9.out.cells
            obtain ⟨b0, b1, b2, b3, b4⟩ := (ST3.out.bd.same ((HB9.out.block _ (by omega)).trans (HLOW.out _ (by omega) (by omega)))).cells
            obtain ⟨s0, s1, s2, s3, s4⟩ := HX9.out.cells
            have hj0 : (0 : Int) ≤ (j : Int) := by omega
            have hj1 : (j : Int) < (d.kids.length : Int) := by omega
            have hbkl : bk < w9.heap.size := by omega
            have hfx : wr.heap.size < w9.heap.size := by omega
            have hxb : w8.heap.size < w9.heap.size := by omega
            have hS : ∀ X : World, (∀ b o, (b = wr.heap.size ∨ b = w.heap.size + 1 ∨ b = bk) → X.cell? ⟨b, o, none⟩ = w9.cell? ⟨b, o, none⟩) → X.cell? ⟨wr.heap.size, 2, none⟩ = some (.int .i64 f.type.kind) ∧ X.cell? ⟨wr.heap.size, 3, none⟩ = some (.int .i64 f.type.lo) ∧ X.cell? ⟨wr.heap.size, 4, none⟩ = some (.int .i64 f.type.hi) ∧ X.cell? ⟨wr.heap.size, 5, none⟩ = some (.slice X3 f.type.names.length x3) ∧ X.cell? ⟨wr.heap.size, 6, none⟩ = some (.slice X4 f.type.fields.length x4) ∧ X.cell? ⟨wr.heap.size, 7, none⟩ = some (.slice X5 f.type.of.length x5) ∧ X.cell? ⟨w.heap.size + 1, 4, none⟩ = some (.slice (some ⟨bk, offk, none⟩) d.kids.length d4) ∧ X.cell? ⟨bk, offk + j * 5, none⟩ = some (.int .i64 y.kind) ∧ X.cell? ⟨bk, offk + j * 5 + 1, none⟩ = some (.int .i64 y.num) ∧ X.cell? ⟨bk, offk + j * 5 + 2, none⟩ = some (.string y.str) ∧ X.cell? ⟨bk, offk + j * 5 + 3, none⟩ = some (.slice Y3 y.keys.length y3) ∧ X.cell? ⟨bk, offk + j * 5 + 4, none⟩ = some (.slice Y4 y.kids.length y4) := fun X hX => ⟨(hX _ _ (.inl rfl)).trans k2, (hX _ _ (.inl rfl)).trans k3, (hX _ _ (.inl rfl)).trans k4, (hX _ _ (.inl rfl)).trans k5, (hX _ _ (.inl rfl)).trans k6, (hX _ _ (.inl rfl)).trans k7, (hX _ _ (.inr (.inl rfl))).trans b4, (hX _ _ (.inr (.inr rfl))).trans r0, (hX _ _ (.inr (.inr rfl))).trans r1, (hX _ _ (.inr (.inr rfl))).trans r2, (hX _ _ (.inr (.inr rfl))).trans r3, (hX _ _ (.inr (.inr rfl))).trans r4⟩
            have HS := Lib.hid hS
            have HK4 : Hid (∀ b o, (b = wr.heap.size ∨ b = w.heap.size + 1 ∨ b = bk) → w9.drew.cell? ⟨b, o, none⟩ = w9.cell? ⟨b, o, none⟩) := Lib.hid (fun _ _ _ => rfl)
            subst hj
            clear hye hkw hyi hcall hmx hneg hS k0 k1 b0 b1 b2 b3 s0 s1 s2 s3 s4
            go_wp2_with fail
            go_region_held3 (fun w' => w'.cell? ⟨wr.heap.size, 2, none⟩ = some (.int .i64 f.type.kind) ∧ w'.cell? ⟨wr.heap.size, 3, none⟩ = some (.int .i64 f.type.lo) ∧ w'.cell? ⟨wr.heap.size, 4, none⟩ = some (.int .i64 f.type.hi) ∧ w'.cell? ⟨wr.heap.size, 5, none⟩ = some (.slice X3 f.type.names.length x3) ∧ w'.cell? ⟨wr.heap.size, 6, none⟩ = some (.slice X4 f.type.fields.length x4) ∧ w'.cell? ⟨wr.heap.size, 7, none⟩ = some (.slice X5 f.type.of.length x5) ∧ w'.cell? ⟨w.heap.size + 1, 4, none⟩ = some (.slice (some ⟨bk, offk, none⟩) d.kids.length d4) ∧ w'.cell? ⟨bk, offk + j * 5, none⟩ = some (.int .i64 y.kind) ∧ w'.cell? ⟨bk, offk + j * 5 + 1, none⟩ = some (.int .i64 y.num) ∧ w'.cell? ⟨bk, offk + j * 5 + 2, none⟩ = some (.string y.str) ∧ w'.cell? ⟨bk, offk + j * 5 + 3, none⟩ = some (.slice Y3 y.keys.length y3) ∧ w'.cell? ⟨bk, offk + j * 5 + 4, none⟩ = some (.slice Y4 y.kids.length y4))
              (first | with_reducible exact HS.out _ HK4.out | with_reducible exact HS.out _ HK8.out | with_reducible exact HS.out _ HK9.out)
              ((go_at_call 52
                refine HCALL.out.mono ?_
                rintro e wm ⟨y0, y1, y2, y3', y4', rfl, hG, hbm⟩
                obtain ⟨A5, c5, A6, c6, rfl, rfl, rfl, rfl, rfl⟩ := hG.forms
                have hbm' : Below w9.heap.size w9 wm := (Below.refl _ _).drew.trans hbm
                have hzm := hbm'.size
                have HGM : Hid (DocS wm (fun k => (k < B ∨ w9.heap.size ≤ k) ∧ k < wm.heap.size) x (.int .i64 x.kind) (.int .i64 x.num) (.string x.str) (.slice A5 x.keys.length c5) (.slice A6 x.kids.length c6)) := Lib.hid hG
                have HBM := Lib.hid hbm'
                have HXM := Lib.hid (HX9.out.same (hbm'.block _ (by omega)))
                have HK8 : Hid (∀ b o, (b = wr.heap.size ∨ b = w.heap.size + 1 ∨ b = bk) → wm.cell? ⟨b, o, none⟩ = w9.cell? ⟨b, o, none⟩) := Lib.hid (fun b o h => hbm'.cell (p := ⟨b, o, none⟩) (by show b < _; omega))
                have HK9 : Hid (∀ b o, (b = wr.heap.size ∨ b = w.heap.size + 1 ∨ b = bk) → (((((wm.setCell ⟨w8.heap.size, 0, none⟩ (.int .i64 x.kind)).setCell ⟨w8.heap.size, 1, none⟩ (.int .i64 x.num)).setCell ⟨w8.heap.size, 2, none⟩ (.string x.str)).setCell ⟨w8.heap.size, 3, none⟩ (.slice A5 x.keys.length c5)).setCell ⟨w8.heap.size, 4, none⟩ (.slice A6 x.kids.length c6)).cell? ⟨b, o, none⟩ = w9.cell? ⟨b, o, none⟩) := Lib.hid (fun b o h => (World.cell?_of_block (a := ⟨b, o, none⟩) ((store5_heap wm w8.heap.size _ _ _ _ _).1 b (by omega))).trans (HK8.out b o h))
                obtain ⟨s0, s1, s2, s3, s4⟩ := HXM.out.cells
                have s5 := HXM.out.frozen
                clear hG hbm hbm'))
            all_goals clear r0 r1 r2 r3 r4 k2 k3 k4 k5 k6 k7 b4 HK8 HK9 HK4 HS
            all_goals (go_wp2_with fail)
            all_goals go_meet
            all_goals (
              obtain ⟨hst9, hsz9⟩ := store5_heap wm w8.heap.size (.int .i64 x.kind) (.int .i64 x.num) (.string x.str) (.slice A5 x.keys.length c5) (.slice A6 x.kids.length c6)
              have hbx := HZ9.out.trans (HBM.out.mono (by omega))
              exact ⟨rfl, _, _, _, _, ((((HXM.out.set0 _).set1 _).set2 _).set3 _).set4 _, HGM.out.keep (fun k hk => ⟨by omega, by rw [hsz9]; exact hk.2, by omega⟩) (fun p hp => World.cell?_of_block (hst9 p.block (by omega))), ((((hbx.setCell (by show wz.heap.size ≤ w8.heap.size; omega) _).setCell (by show wz.heap.size ≤ w8.heap.size; omega) _).setCell (by show wz.heap.size ≤ w8.heap.size; omega) _).setCell (by show wz.heap.size ≤ w8.heap.size; omega) _).setCell (by show wz.heap.size ≤ w8.heap.size; omega) _, by rw [hsz9]; omega⟩)
        case rest =>
          obtain ⟨rfl, A5, c5, A6, c6, hkbx, hG, hbx9, hz10⟩ := hcut
          obtain ⟨wd, hwd⟩ : ∃ wd, wd = wc := ⟨_, rfl⟩
          subst hwd
          have HX9 := Lib.hid hG
          have HKB9 := Lib.hid hkbx
          have HBW9 := Lib.hid (HBZ.out.trans (hbx9.mono (by omega)))
          have HFB9 := Lib.hid (HKB.out.same (hbx9.block _ (by omega)))
          have HST9 := Lib.hid (HST.out.past HBW9.out)
          have hl3 := HST.out.o3.lt; have hl4 := HST.out.o4.lt
          have hrz : wr.heap.size + 2 ≤ wd.heap.size := by omega
          have hbxl : w2.heap.size < wd.heap.size := by omega
          have hxbl : w8.heap.size < wd.heap.size := by omega
          clear hG hkbx hbx9
          obtain ⟨q0, q1, q2, q3, q4⟩ := HST9.out.bx.cells
          have q5 := HST9.out.bx.frozen
          have kn := HFB9.out.cells.1
          have ag : v3.ownBlock ≠ some w2.heap.size := fun h => by have := (hl3 _ h).1; omega
          have ag4 : v4.ownBlock ≠ some w2.heap.size := fun h => by have := (hl4 _ h).1; omega
          have hxl : ((mendF (t.fields.take k) d).map fun x => x.1).length ≤ 10000 := by have := mendF_len d (t.fields.take k); have := List.length_take_le k t.fields; simp only [List.length_map]; omega
          have hll : ((mendF (t.fields.take k) d).map fun x => x.2.1).length ≤ 10000 := by have := mendF_len d (t.fields.take k); have := List.length_take_le k t.fields; simp only [List.length_map]; omega
          have hsum : ((mendF (t.fields.take k) d).map fun x => x.2.2).sum ≤ 65536 := Nat.le_trans (mendF_sum t.fields d k) HBD.out
          have HS1 : Hid ((mendF (t.fields.take (k + 1)) d).map (fun x => x.1) = (mendF (t.fields.take k) d).map (fun x => x.1) ++ [f.name]) := Lib.hid (by rw [HSUC.out, HM1.out, List.map_append]; rfl)
          have HS2 : Hid ((mendF (t.fields.take (k + 1)) d).map (fun x => x.2.1) = (mendF (t.fields.take k) d).map (fun x => x.2.1) ++ [x]) := Lib.hid (by rw [HSUC.out, HM1.out, List.map_append]; rfl)
          have HS3 : Hid (((mendF (t.fields.take (k + 1)) d).map fun x => x.2.2).sum = ((mendF (t.fields.take k) d).map fun x => x.2.2).sum + nx) := Lib.hid (by rw [HSUC.out, HM1.out]; simp)
          generalize (mendF (t.fields.take k) d).map (fun x => x.1) = XS at *
          generalize (mendF (t.fields.take k) d).map (fun x => x.2.1) = LS at *
          obtain ⟨i0, hi, hz0, hz1', hz2⟩ := info_parts infoS
          have HI := Lib.hid hi; have HZ0 := Lib.hid hz0; have HZ1 := Lib.hid hz1'; have HZ2 := Lib.hid hz2
          obtain ⟨j0, hj9, hy0, hy1, hy2⟩ := info_parts infoD
          have HJ := Lib.hid hj9; have HJ0 := Lib.hid hy0; have HJ1 := Lib.hid hy1; have HJ2 := Lib.hid hy2
          clear hi hz0 hz1' hz2 hj9 hy0 hy1 hy2
          go_upto_region 18 with (at_builtin; refine wpList_append_lies _ rfl _ _ 22 rfl w3.heap.size 9 i0 (.string ByteArray.empty) 1 16 Tryz.underlying22 HI.out HZ0.out HZ1.out HZ2.out (by rfl) (by omega) v3 XS.length _ rfl (HST9.out.o3.alloc _) ⟨wd.heap.size, 0, none⟩ 1 _ [.string f.name] rfl rfl (World.news_of_block (heap_alloc_new wd _)) (by simp [Value.oneCell']) (by omega) (by unfold maxLen; omega) (by omega) (by simp; omega) (wd.heap.size + 1) (by simp) ?_; intro g5 cap5 w5 hown5 hgrow5 hat5 hlt5; have mf5 : w5.frozen? ⟨w2.heap.size, 3, none⟩ = false := ((hgrow5.frozen_far ⟨w2.heap.size, 3, none⟩ (by simp; omega) (Ne.symm ag)).trans ((frozen_alloc_lt hbxl _ 3).trans (q5 3))); have m45 := (hgrow5.cell_far ⟨w2.heap.size, 3, none⟩ (by simp; omega) (Ne.symm ag)).trans ((cell_alloc_lt' hbxl _ 3).trans q3))
          have hst10 := HST9.out.key0 (by omega) hown5 _ hgrow5 hat5
          have hgs := hgrow5.size
          rw [World.size_alloc] at hgs
          have hkeep : ∀ j, j < wd.heap.size → j ≠ w2.heap.size → v3.ownBlock ≠ some j → (w5.setCell ⟨w2.heap.size, 3, none⟩ (.slice (some ⟨g5, 0, none⟩) (XS.length + 1) cap5)).heap[j]? = wd.heap[j]? := fun j hj hne hno =>
            (Below.heap_setCell _ _ _ j hne).trans ((hgrow5.block j (by simp; omega) (Ne.symm hno)).trans (Below.heap_alloc wd _ j hj))
          have hz11 : wd.heap.size ≤ (w5.setCell ⟨w2.heap.size, 3, none⟩ (.slice (some ⟨g5, 0, none⟩) (XS.length + 1) cap5)).heap.size := by simp only [size_setCell]; omega
          have hg5 : (w3.heap.size ≤ g5 ∧ g5 < wr.heap.size) ∨ wd.heap.size ≤ g5 := by
            rcases hat5 with h | h
            · exact .inl (hl3 _ h)
            · exact .inr (by omega)
          generalize w5.setCell ⟨w2.heap.size, 3, none⟩ (.slice (some ⟨g5, 0, none⟩) (XS.length + 1) cap5) = w10 at *
          have HST10 := Lib.hid hst10
          have hbx10 : w2.heap.size < w10.heap.size := by omega
          have HKB10 : Hid (Box5 w10 w8.heap.size (.int .i64 x.kind) (.int .i64 x.num) (.string x.str) (.slice A5 x.keys.length c5) (.slice A6 x.kids.length c6)) := Lib.hid (HKB9.out.same (hkeep _ (by omega) (by omega) fun h => by have := (hl3 _ h).2; omega))
          have HX10 : Hid (DocS w10 (fun k => (k < B ∨ wz.heap.size ≤ k) ∧ k < wd.heap.size ∧ k ≠ w8.heap.size) x (.int .i64 x.kind) (.int .i64 x.num) (.string x.str) (.slice A5 x.keys.length c5) (.slice A6 x.kids.length c6)) := Lib.hid (HX9.out.keep (fun _ hk => hk) fun p hp => World.cell?_of_block (hkeep p.block hp.2.1 (by omega) fun h => by have := hl3 _ h; omega))
          have HKS : Hid (∀ j, (j < B ∨ wz.heap.size ≤ j) ∧ j < wd.heap.size ∧ j ≠ w8.heap.size → MKid w3 w10 (fun k => k < B) w2.heap.size (.slice (some ⟨g5, 0, none⟩) (XS.length + 1) cap5) v4 j) := Lib.hid (fun j hj => ⟨by omega, by omega, by omega, fun e => by
            have : g5 = j := by simpa [Value.ownBlock] using e
            omega, fun e => by have := hl4 _ e; omega⟩)
          have HCSL : Hid (w10.ownsRow w3.heap.size 29 5 v4 LS.length cs) := Lib.hid hst10.o4
          clear q0 q1 q2 q3 q4 q5 kn hown5 hgrow5 hat5 hlt5 mf5 m45 hkeep hgs
          obtain ⟨q0, q1, q2, q3, q4⟩ := hst10.bx.cells
          have q5 := hst10.bx.frozen
          obtain ⟨n0, n1, n2, n3, n4⟩ := HKB10.out.cells
          have hw3 : w3.heap.size ≤ w10.heap.size := by omega
          clear hst10
          go_wp2_with (at_builtin; refine wpList_append_lies _ rfl _ _ 27 rfl w3.heap.size 29 j0 (.agg #[.int .i64 0, .int .i64 0, .string ByteArray.empty, .slice none 0 0, .slice none 0 0]) 5 80 Tryz.underlying27 HJ.out HJ0.out HJ1.out HJ2.out (by rfl) (by omega) v4 LS.length cs rfl (HCSL.out.alloc _) ⟨w10.heap.size, 0, none⟩ 1 _ [.int .i64 x.kind, .int .i64 x.num, .string x.str, .slice A5 x.keys.length c5, .slice A6 x.kids.length c6] rfl rfl (World.news_of_block (cs := #[.int .i64 x.kind, .int .i64 x.num, .string x.str, .slice A5 x.keys.length c5, .slice A6 x.kids.length c6]) (t := 29) (fr := (0, 0)) (heap_alloc_new w10 _)) (by simp [Value.oneCell']) (by omega) (by unfold maxLen; omega) (by omega) (by simp; omega) (w10.heap.size + 1) (by simp) ?_; intro g8 cap8 w8' hown8 hgrow8 hat8 hlt8; have mf8 : w8'.frozen? ⟨w2.heap.size, 4, none⟩ = false := ((hgrow8.frozen_far ⟨w2.heap.size, 4, none⟩ (by simp; omega) (Ne.symm ag4)).trans ((frozen_alloc_lt hbx10 _ 4).trans (q5 4))); have m48 := (hgrow8.cell_far ⟨w2.heap.size, 4, none⟩ (by simp; omega) (Ne.symm ag4)).trans ((cell_alloc_lt' hbx10 _ 4).trans q4))
          refine ⟨⟨k + 1, _, _, _, by omega, by rw [HS3.out]; go_num, by go_num, by rw [HS1.out, HS2.out]; exact HST10.out.kid (by omega) (Below.refl _ _) HX10.out HKS.out hown8 _ hgrow8 hat8⟩, by simp [intOf]; omega⟩
    · have hkl : k = t.fields.length := by omega
      subst hkl
      obtain ⟨wo, hwo⟩ : ∃ wo, wo = wr := ⟨_, rfl⟩
      subst hwo
      have hst2 := HST.out
      rw [List.take_length] at hst2
      have HST2 := Lib.hid hst2
      rw [List.take_length]
      obtain ⟨SM, hsm⟩ : ∃ SM, ((mendF t.fields d).map fun x => x.2.2).sum = SM := ⟨_, rfl⟩
      have hsm9 : SM ≤ 65536 := by rw [← hsm]; exact HBD.out
      have HSM := Lib.hid hsm
      have STO := Lib.hid (ST3.out.next (HST2.out.t.below (B := w.heap.size + 2) (by simp) (by omega) (by omega)))
      have HRO := Lib.hid (HR3.out.same (HST2.out.t.block (w.heap.size + 1 + 1) (by omega) (by simp) (by omega)))
      obtain ⟨x0, x1, x2, x3, x4, x5⟩ := STO.out.bt.cells
      clear hst2 hsm hlt hk0
      rw [HSM.out]
      go_wp2_with fail
      clear x0 x1 x2 x3 x4 x5
      go_loopw [7, 13] (fun s7 i wx => ∃ j : Nat, j ≤ d.keys.length ∧ s7 = .int .i64 ((SM + (moreV t (d.keys.take j)).length : Nat) : Int) ∧ i = .int .i64 j ∧ Hid (Below wo.heap.size wo wx)) (fun _ i _ => d.keys.length - (intOf i).toNat)
      case atStart => exact ⟨0, Nat.zero_le _, by simp [moreV], rfl, Below.refl _ _⟩
      case round =>
        obtain ⟨wx, hwx⟩ : ∃ wx, wx = wr := ⟨_, rfl⟩
        subst hwx
        obtain ⟨j, hj0, rfl, rfl, HBX⟩ := hrel
        have hzx := HBX.out.size
        have STX := Lib.hid (STO.out.next (HBX.out.mono (by omega)))
        obtain ⟨x0, x1, x2, x3, x4, x5⟩ := STX.out.bt.cells
        obtain ⟨y0, y1, y2, y3, y4⟩ := STX.out.bd.cells
        obtain ⟨ml, hml⟩ : ∃ ml, ml = (moreV t (d.keys.take j)).length := ⟨_, rfl⟩
        have hml9 : ml ≤ 10000 := by have h1 := moreV_len t (d.keys.take j); have h2 := List.length_take_le j d.keys; have h3 := HFD.out.keys; omega
        have hkl10 := HFD.out.keys
        rw [← hml]
        have HML := Lib.hid hml
        clear hml
        by_cases hlt : j < d.keys.length
        · have HMT := Lib.hid (moreV_take' t d.keys j hlt)
          obtain ⟨b, off, rfl, hb, _, sK⟩ := STX.out.strs_at hlt
          obtain ⟨s, hs⟩ : ∃ s, s = d.keys[j] := ⟨_, rfl⟩
          rw [← hs] at sK HMT
          have HFC := Lib.hid (rfield_any (s := s) (B := B) (w := wx.drew) HF.out STX.out.le (STX.out.next ((Below.refl _ _).drew)).tv)
          have hj0 : (0 : Int) ≤ (j : Int) := by omega
          have hj1 : (j : Int) < (d.keys.length : Int) := by omega
          have hbx : b < wx.heap.size := by omega
          clear hs
          go_wp2_with fail
          refine wp_region_still_tail 6 (by kernel_rfl) (by kernel_rfl) ?_
          change wpStill _ _ (World.drew wx) (fun a' => wpList _ _ _ _ a' (World.drew wx)) _ _
          simp only [List.take_succ_cons, List.take_zero, List.drop_succ_cons, List.drop_zero]
          repeat still_step
          refine wpStill_nil ?_
          go_wp2_with fail
          go_at_call 73
          refine HFC.out.mono ?_
          rintro e w4 ⟨rfl, hb4⟩
          have HBX4 := Lib.hid (HBX.out.trans ((((Below.refl _ _).drew).trans hb4).mono hzx))
          obtain ⟨fx, hfx⟩ : ∃ fx, fx = fieldOf t s := ⟨_, rfl⟩
          rw [← hfx] at HMT ⊢
          clear hb4 hfx x0 x1 x2 x3 x4 x5 y0 y1 y2 y3 y4 sK HFC
          by_cases hneg : fx < 0
          · have HM2 : Hid ((moreV t (d.keys.take (j + 1))).length = ml + 1) := Lib.hid (by rw [HMT.out, if_pos hneg, ← HML.out])
            have hdx : decide (fx < 0) = true := by simp; omega
            go_wp2_with fail
            refine ⟨⟨j + 1, by omega, by rw [HM2.out]; go_num, by go_num, HBX4⟩, by simp [intOf]; omega⟩
          · have HM2 : Hid ((moreV t (d.keys.take (j + 1))).length = ml) := Lib.hid (by rw [HMT.out, if_neg hneg, ← HML.out]; rfl)
            have hdx : decide (fx < 0) = false := by simp; omega
            go_wp2_with fail
            refine ⟨⟨j + 1, by omega, by rw [HM2.out, Int.natCast_add], by go_num, HBX4⟩, by simp [intOf]; omega⟩
        · have hjl : j = d.keys.length := by omega
          subst hjl
          have HSTX := Lib.hid (HST2.out.past HBX.out)
          have HRR := Lib.hid (HRO.out.same (HBX.out.block _ (by omega)))
          have he : (moreV t d.keys).length = ml := by rw [HML.out, List.take_length]
          have HE := Lib.hid he
          clear he
          obtain ⟨q0, q1, q2, q3, q4⟩ := HSTX.out.bx.cells
          obtain ⟨r0, r1, r2, r3, r4⟩ := HRR.out.cells
          have r5 := HRR.out.frozen
          obtain ⟨AA, ca, rfl⟩ := ownsRow_slice HSTX.out.o3
          obtain ⟨AB, cb, rfl⟩ := ownsRow_slice HSTX.out.o4
          obtain ⟨XS, hxs⟩ : ∃ XS, (mendF t.fields d).map (fun x => x.1) = XS := ⟨_, rfl⟩
          obtain ⟨LS, hls⟩ : ∃ LS, (mendF t.fields d).map (fun x => x.2.1) = LS := ⟨_, rfl⟩
          rw [hxs] at HSTX q3
          rw [hls] at HSTX q4
          have HXS := Lib.hid hxs; have HLS := Lib.hid hls
          clear hxs hls HST2 HST
          go_wp2_with fail
          have hfin := ((((HRR.out.set0 (.int .i64 d.kind)).set1 (.int .i64 d.num)).set2 (.string d.str)).set3 (.slice AA XS.length ca)).set4 (.slice AB LS.length cb)
          clear q0 q1 q2 q3 q4 r0 r1 r2 r3 r4 r5
          refine ret_cell5_2 rfl rfl rfl hfin.load rfl ?_
          have e : (ml : Nat) + SM = SM + ml := Nat.add_comm _ _
          rw [HXS.out, HLS.out, HSM.out, HE.out, e, Int.natCast_add]
          exact rmend_out (w := w) HSTX.out rfl (by omega) (r := w.heap.size + 1 + 1) (by omega) (by omega) (by omega) ST3.out.bl
end Go.Proofs.YteecdmceleanjaaGreatDoor
namespace Go.Proofs.YteecdmceleanjaaGreatDoor
open Go.RowKit

theorem rmend_any : ∀ m, RMendTo m := by
  intro m
  induction m with
  | zero => intro t d tv uv w B hm; have := T.depth_pos t; omega
  | succ m ih =>
    intro t d tv uv w B hm hr hf hfd hpd hds hB ht hd
    have hok := leastOk_of (show soundT t = true by have h := (rightT_small hr).2.2; rw [allT_eq, Bool.and_eq_true] at h; exact h.1)
    by_cases h0 : fitsV t d = 0
    case neg =>
      rw [mend_eq, if_neg h0]
      exact rmend_no h0 hr hf hfd hB ht hd
    have hdk : d.kind = kindV t := by
      unfold fitsV at h0
      split at h0
      · assumption
      · omega
    have hkk := hok.kind
    have hdk1 := (docOk_of (by rw [partB_eq, Bool.and_eq_true] at hpd; exact hpd.1)).kind
    by_cases hk : t.kind = 1
    · have h1 : d.kind = 1 := by rw [hdk]; unfold kindV; rw [if_pos hk]
      have h := rmend_fields ih hk h1 hm hr hf hfd h0 hpd hds hB ht hd
      obtain ⟨e1, e2⟩ := plain_of hpd (.inl h1)
      rw [e1, e2] at h
      rw [mend_eq, if_pos h0, if_pos hk]
      exact h
    by_cases h23 : t.kind = 2 ∨ t.kind = 3
    · obtain ⟨q, hof⟩ := hok.of1 h23
      have h := rmend_kids ih h23 hof hm hr hf hfd h0 hpd hds hB ht hd
      obtain ⟨e1, e2⟩ := plain_of hpd (by
        right
        rw [hdk]; unfold kindV
        rcases h23 with h | h <;> rw [h] <;> decide)
      rw [e1, e2] at h
      rw [mend_eq, if_pos h0, if_neg hk, if_pos h23, hof]
      exact h
    · rw [mend_eq, if_pos h0, if_neg hk, if_neg h23]
      refine rmend_leaf h0 hk (fun h => h23 (.inl h)) (fun h => h23 (.inr h)) hr hf hfd (leaf_of hpd ?_) hB ht hd
      have h4 : t.kind = 4 ∨ t.kind = 5 ∨ t.kind = 6 ∨ t.kind = 7 := by omega
      rw [hdk]; unfold kindV
      rcases h4 with h | h | h | h <;> rw [h] <;> decide
set_option maxHeartbeats 16000000 in
set_option maxRecDepth 100000 in
theorem rmendV_any {t : T} {d : D} {tv uv : Value} {w : World} {B : Nat} (hs : t.size ≤ 10000) (hdp : t.depth ≤ 900) (hf : t.Fit) (hfd : d.Fit) (hds : d.size ≤ 10000) (hdd : d.depth ≤ 10000) (hB : B ≤ w.heap.size) (ht : TypeV w B t tv) (hd : DocV w B d uv) :
    Calls Tryz.prog 24 #[tv, uv] w (MadeDocS2 w (fun k => k < B) (mendV t d).1 (.int .i64 (mendV t d).2)) := by
  obtain ⟨v0, v1, v2, v3, v4, v5, rfl, hti⟩ := ht
  obtain ⟨u0, u1, u2, u3, u4, rfl, hdi⟩ := hd
  have ST := Lib.hid ((TD.start hB hti hdi).next (w' := ((w.alloc (.cells #[v0, v1, v2, v3, v4, v5] 26)).alloc (.cells #[u0, u1, u2, u3, u4] 29)).alloc (.cells #[.int .i64 0, .int .i64 0, .string ⟨#[]⟩, .slice none 0 0, .slice none 0 0] 29)) ((Below.refl _ _).alloc (by simp) _))
  have HR : Hid (Box5 (((w.alloc (.cells #[v0, v1, v2, v3, v4, v5] 26)).alloc (.cells #[u0, u1, u2, u3, u4] 29)).alloc (.cells #[.int .i64 0, .int .i64 0, .string ⟨#[]⟩, .slice none 0 0, .slice none 0 0] 29)) (w.heap.size + 1 + 1) (.int .i64 0) (.int .i64 0) (.string ⟨#[]⟩) (.slice none 0 0) (.slice none 0 0)) := Box5.new' (by simp) _ _ _ _ _
  have hz : (((w.alloc (.cells #[v0, v1, v2, v3, v4, v5] 26)).alloc (.cells #[u0, u1, u2, u3, u4] 29)).alloc (.cells #[.int .i64 0, .int .i64 0, .string ⟨#[]⟩, .slice none 0 0, .slice none 0 0] 29)).heap.size = w.heap.size + 3 := by simp
  obtain ⟨B3, d3, B4, d4, rfl, rfl, rfl, rfl, rfl⟩ := hdi.forms
  have HF := Lib.hid hf; have HFD := Lib.hid hfd
  have HDI := Lib.hid hdi
  clear hti hdi hf hfd
  go_enter Tryz.func24, Tryz.ntmps24
  go_wp2_with fail
  generalize (((w.alloc (.cells #[v0, v1, v2, v3, v4, v5] 26)).alloc (.cells #[.int .i64 d.kind, .int .i64 d.num, .string d.str, .slice B3 d.keys.length d3, .slice B4 d.kids.length d4] 29)).alloc (.cells #[.int .i64 0, .int .i64 0, .string ⟨#[]⟩, .slice none 0 0, .slice none 0 0] 29)) = w1 at *
  refine (rboth_any hs hdp HF.out HFD.out hds hdd ST.out.le ST.out.tv ST.out.dv).mono ?_
  rintro e w2 ⟨rfl, hb2⟩
  have hz2 := hb2.size
  have ST2 := Lib.hid (ST.out.next (hb2.mono (by omega)))
  obtain ⟨x0, x1, x2, x3, x4, x5⟩ := ST2.out.bt.cells
  obtain ⟨y0, y1, y2, y3, y4⟩ := ST2.out.bd.cells
  have HR2 := Lib.hid (HR.out.same (hb2.block _ (by omega)))
  have hrl : w.heap.size + 1 + 1 < w2.heap.size := by omega
  have HBW := Lib.hid ST2.out.bl
  clear hb2 hz2
  by_cases hr : bothB t d = true
  · have hp := bothB_parts hr
    have hrt : rightT t = true := by simp only [bothB, Bool.and_eq_true] at hr; exact hr.1
    obtain ⟨x, nx, hmx⟩ : ∃ x nx, t.mend d = (x, nx) := ⟨_, _, rfl⟩
    have EM : Hid (mendV t d = (x, nx)) := Lib.hid (by unfold mendV; rw [if_pos hr, hmx])
    have hca := rmend_any t.depth t d _ _ w2 B (Nat.le_refl _) hrt HF.out HFD.out hp.2.2.2.2.2 hp.2.2.2.2.1 ST2.out.le ST2.out.tv ST2.out.dv
    rw [hmx] at hca
    have HCA := Lib.hid hca
    rw [hr]
    clear hr hp hrt hca hmx
    go_wp2_with fail
    go_at_call 52
    refine HCA.out.mono ?_
    rintro e w8 ⟨z0, z1, z2, z3, z4, rfl, hG, hb8⟩
    obtain ⟨A7, c7, A8, c8, rfl, rfl, rfl, rfl, rfl⟩ := hG.forms
    have HG := Lib.hid hG; have HB8 := Lib.hid hb8
    have HRB := Lib.hid (HR2.out.same (hb8.block _ hrl))
    clear hG hb8 x0 x1 x2 x3 x4 x5 y0 y1 y2 y3 y4
    obtain ⟨r0, r1, r2, r3, r4⟩ := HRB.out.cells
    have r5 := HRB.out.frozen
    go_wp2_with fail
    have hfin := ((((HRB.out.set0 (.int .i64 x.kind)).set1 (.int .i64 x.num)).set2 (.string x.str)).set3 (.slice A7 x.keys.length c7)).set4 (.slice A8 x.kids.length c8)
    clear r0 r1 r2 r3 r4 r5
    refine ret_cell5_2 rfl rfl rfl hfin.load rfl ?_
    rw [EM.out]
    exact MadeDocS2.stored (HG.out.keep (fun k hk => ⟨by omega, hk.2⟩) fun _ _ => rfl) (HBW.out.trans (HB8.out.mono (by omega))) hB (by omega)
  · have hr' : bothB t d = false := by simpa using hr
    have EM : Hid (mendV t d = (d, 0)) := Lib.hid (by unfold mendV; rw [if_neg hr])
    rw [hr']
    clear hr hr' x0 x1 x2 x3 x4 x5
    obtain ⟨r0, r1, r2, r3, r4⟩ := HR2.out.cells
    have r5 := HR2.out.frozen
    go_wp2_with fail
    have hfin := ((((HR2.out.set0 (.int .i64 d.kind)).set1 (.int .i64 d.num)).set2 (.string d.str)).set3 (.slice B3 d.keys.length d3)).set4 (.slice B4 d.kids.length d4)
    clear r0 r1 r2 r3 r4 r5 y0 y1 y2 y3 y4
    refine ret_cell5_2 rfl rfl rfl hfin.load rfl ?_
    rw [EM.out]
    exact MadeDocS2.stored (HDI.out.toS.keep (fun k hk => ⟨.inl hk, by omega⟩) fun p hp => HBW.out.cell (by omega)) HBW.out hB (by omega)
end Go.Proofs.YteecdmceleanjaaGreatDoor
namespace Go.Proofs.YteecdmceleanjaaGreatDoor
open Go.RowKit

theorem ddepth_at : ∀ (l : List D) (k : Nat) (h : k < l.length), (l[k]).depth ≤ D.depths l
  | [], _, h => absurd h (by simp)
  | d :: r, 0, _ => by simp only [D.depths, List.getElem_cons_zero]; omega
  | d :: r, k + 1, h => by have := ddepth_at r k (by simpa using h); simp only [D.depths, List.getElem_cons_succ]; omega
theorem own_empty {w : World} {base b : Nat} (hb : base ≤ b) (hh : w.heap[b]? = some (.cells #[] 9 (0, 0))) : w.ownsRow base 9 1 (.slice (some ⟨b, 0, none⟩) 0 0) 0 [] :=
  ⟨by simp, .inr ⟨b, 0, #[], rfl, hb, hh, Nat.le_refl _, by unfold maxLen; omega, by simp, by simp⟩⟩
theorem grow_EO {w1 w2 : World} {E O : Obj} {own : Option Nat} (hg : ((w1.alloc E).alloc O).drew.grownBy w2 own) (hO : O = .cells #[.int .i64 0, .int .i64 0, .string ⟨#[]⟩, .slice none 0 0, .slice none 0 0] 29 (0, 0)) (hne : own ≠ some (w1.heap.size + 1)) : Box5 w2 (w1.heap.size + 1) (.int .i64 0) (.int .i64 0) (.string ⟨#[]⟩) (.slice none 0 0) (.slice none 0 0) := by
  subst hO
  exact (Box5.new' (w := w1.alloc E) (World.size_alloc _ _) _ _ _ _ _).same (hg.block _ (by show _ < ((w1.alloc E).alloc _).heap.size; simp) fun e => hne e.symm)
theorem grow_OE {w1 w2 : World} {E O : Obj} {own : Option Nat} (hg : ((w1.alloc O).alloc E).drew.grownBy w2 own) (hO : O = .cells #[.int .i64 0, .int .i64 0, .string ⟨#[]⟩, .slice none 0 0, .slice none 0 0] 29 (0, 0)) (hne : own ≠ some w1.heap.size) : Box5 w2 w1.heap.size (.int .i64 0) (.int .i64 0) (.string ⟨#[]⟩) (.slice none 0 0) (.slice none 0 0) := by
  subst hO
  exact ((Box5.new w1 _ _ _ _ _).alloc E).same (hg.block _ (by show _ < ((w1.alloc _).alloc E).heap.size; simp; omega) fun e => hne e.symm)
theorem store_fin {w1 W : World} {bo n c' : Nat} {A' : Option Addr} {kd nm : Int} {st : ByteArray} {xs : List Value} (hy : Box5 W bo (.int .i64 0) (.int .i64 0) (.string ⟨#[]⟩) (.slice none 0 0) (.slice none 0 0)) (hown : W.ownsRow w1.heap.size 9 1 (.slice A' n c') n xs) (hne : (Value.slice A' n c').ownBlock ≠ some bo) (hbo : w1.heap.size ≤ bo) (hb : Below w1.heap.size w1 W) :
    Box5 (((((W.setCell ⟨bo, 0, none⟩ (.int .i64 kd)).setCell ⟨bo, 1, none⟩ (.int .i64 nm)).setCell ⟨bo, 2, none⟩ (.string st)).setCell ⟨bo, 3, none⟩ (.slice A' n c')).setCell ⟨bo, 4, none⟩ (.slice none 0 0)) bo (.int .i64 kd) (.int .i64 nm) (.string st) (.slice A' n c') (.slice none 0 0) ∧
    (((((W.setCell ⟨bo, 0, none⟩ (.int .i64 kd)).setCell ⟨bo, 1, none⟩ (.int .i64 nm)).setCell ⟨bo, 2, none⟩ (.string st)).setCell ⟨bo, 3, none⟩ (.slice A' n c')).setCell ⟨bo, 4, none⟩ (.slice none 0 0)).ownsRow w1.heap.size 9 1 (.slice A' n c') n xs ∧
    Below w1.heap.size w1 (((((W.setCell ⟨bo, 0, none⟩ (.int .i64 kd)).setCell ⟨bo, 1, none⟩ (.int .i64 nm)).setCell ⟨bo, 2, none⟩ (.string st)).setCell ⟨bo, 3, none⟩ (.slice A' n c')).setCell ⟨bo, 4, none⟩ (.slice none 0 0)) := by
  refine ⟨((((hy.set0 _).set1 _).set2 _).set3 _).set4 _, ownsRow_same hown fun k hk => ?_, ((((hb.setCell hbo _).setCell hbo _).setCell hbo _).setCell hbo _).setCell hbo _⟩
  have hk2 : k ≠ bo := fun e => hne (by rw [← e]; exact blk_mem.1 hk)
  rw [Below.heap_setCell _ _ _ k hk2, Below.heap_setCell _ _ _ k hk2, Below.heap_setCell _ _ _ k hk2, Below.heap_setCell _ _ _ k hk2, Below.heap_setCell _ _ _ k hk2]
theorem strsS_own3 {w : World} {base b : Nat} {v : Value} {xs : List ByteArray} (h : w.ownsRow base 9 1 v xs.length (xs.map Value.string)) (hb : v.ownBlock ≠ some b) : StrsS w (fun k => base ≤ k ∧ k < w.heap.size ∧ k ≠ b) v xs := by
  obtain ⟨A, c, e, hc, hcell⟩ := strsS_own2 h
  subst e
  refine ⟨A, c, rfl, hc, fun hl => ?_⟩
  obtain ⟨g, off, e2, hg, hc2⟩ := hcell hl
  subst e2
  exact ⟨g, off, rfl, ⟨hg.1, hg.2, fun e => hb (by subst e; rfl)⟩, hc2⟩
/-- What a call tells that copies a document: all its parts are new. -/
def MadeDocS (w : World) (d : D) (e : Ending) (w' : World) : Prop :=
  ∃ (v0 v1 v2 v3 v4 : Value), e = .returned (.agg #[v0, v1, v2, v3, v4]) ∧ DocS w' (fun k => w.heap.size ≤ k ∧ k < w'.heap.size) d v0 v1 v2 v3 v4 ∧ Below w.heap.size w w'
theorem rdeep_out {w w1 w3 wr : World} {box r : Nat} {kd nm : Int} {st : ByteArray} {xs : List ByteArray} {ls : List D} {v3 v4 : Value} {cs : List Value} {d : D} (h : DocN w3 wr (fun k => w1.heap.size ≤ k) box kd nm st xs ls v3 v4 cs) (hd : d = .mk kd nm st xs ls)
    (hr : w.heap.size ≤ r) (hr1 : r < w1.heap.size) (hr3 : w1.heap.size ≤ w3.heap.size) (hbx : w.heap.size ≤ box) (hb : Below w.heap.size w w3) :
    MadeDocS w d (.returned (.agg #[.int .i64 kd, .int .i64 nm, .string st, v3, v4])) (((((wr.setCell ⟨r, 0, none⟩ (.int .i64 kd)).setCell ⟨r, 1, none⟩ (.int .i64 nm)).setCell ⟨r, 2, none⟩ (.string st)).setCell ⟨r, 3, none⟩ v3).setCell ⟨r, 4, none⟩ v4) := by
  subst hd
  have hz := hb.size
  have hzt := h.t.size
  have hb2 : Below w.heap.size w wr := hb.trans (h.t.below (B := w.heap.size) (by simp) (by omega) (by omega))
  obtain ⟨hs, hz5⟩ := store5_heap wr r (.int .i64 kd) (.int .i64 nm) (.string st) v3 v4
  have hD : DocS wr (fun k => w1.heap.size ≤ k ∧ k < wr.heap.size) (.mk kd nm st xs ls) (.int .i64 kd) (.int .i64 nm) (.string st) v3 v4 := by
    simp only [DocS]
    refine ⟨trivial, trivial, trivial, h.k3.keep (fun k hk => ⟨hk.1, by omega⟩) fun _ _ => rfl, ?_⟩
    exact row_docS2 h.o4 h.ok (fun k hk => ⟨by rcases hk.1 with h1 | h1 <;> omega, hk.2.1⟩) fun k hk hl => ⟨by omega, hl⟩
  exact ⟨_, _, _, _, _, rfl, hD.keep (fun k hk => ⟨by omega, by rw [hz5]; exact hk.2⟩) fun p hp => World.cell?_of_block (hs p.block (by omega)), store5_below hb2 hr _ _ _ _ _⟩
set_option maxHeartbeats 8000000 in
set_option maxRecDepth 100000 in
theorem rdeep_any (m : Nat) : ∀ (d : D) (v0 v1 v2 v3 v4 : Value) (w : World) (B : Nat), d.depth ≤ m → d.Fit → B ≤ w.heap.size → DocIn w B d v0 v1 v2 v3 v4 →
    Calls Tryz.prog 22 #[.agg #[v0, v1, v2, v3, v4]] w (MadeDocS w d) := by
  induction m with
  | zero => intro d; obtain ⟨_, _, _, _, _⟩ := d; intro _ _ _ _ _ _ _ h; simp [D.depth] at h
  | succ m ih =>
    intro d v0 v1 v2 v3 v4 w B hm hf hB hd
    have IH := Lib.hid ih
    clear ih
    have hkl := hf.keys; have hdl := hf.kids
    have HF := Lib.hid hf; clear hf
    have HKV := Lib.hid (kids_v hd)
    have HK3 := Lib.hid hd.keys_
    have hde := D.depth_eq d
    have hdm : D.depths d.kids ≤ m := by omega
    clear hde
    obtain ⟨A3, c3, A4, c4, rfl, rfl, rfl, rfl, rfl⟩ := hd.forms
    clear hd
    go_enter Tryz.func22, Tryz.ntmps22
    go_upto_region 1 with fail
    obtain ⟨w1, hw1⟩ : ∃ w1, w1 = ((w.alloc (.cells #[.int .i64 d.kind, .int .i64 d.num, .string d.str, .slice A3 d.keys.length c3, .slice A4 d.kids.length c4] 29)).alloc (.cells #[.int .i64 0, .int .i64 0, .string ⟨#[]⟩, .slice none 0 0, .slice none 0 0] 29)) := ⟨_, rfl⟩
    have hx1 : Box5 w1 w.heap.size (.int .i64 d.kind) (.int .i64 d.num) (.string d.str) (.slice A3 d.keys.length c3) (.slice A4 d.kids.length c4) := by rw [hw1]; exact (Box5.new w _ _ _ _ _).alloc _
    have HR1 : Hid (Box5 w1 (w.heap.size + 1) (.int .i64 0) (.int .i64 0) (.string ⟨#[]⟩) (.slice none 0 0) (.slice none 0 0)) := by rw [hw1]; exact Lib.hid (Box5.new' (World.size_alloc _ _) _ _ _ _ _)
    have HB1 : Hid (Below w.heap.size w w1) := by rw [hw1]; exact Lib.hid (((Below.refl _ _).alloc (Nat.le_refl _) _).alloc (by simp) _)
    have hz1 : w1.heap.size = w.heap.size + 2 := by rw [hw1]; simp
    have HS3 : Hid (Strs w1 B (.slice A3 d.keys.length c3) d.keys) := Lib.hid (HK3.out.keep fun p hp => HB1.out.cell (by omega))
    rw [← hw1]
    clear hw1
    have HX1 := Lib.hid hx1
    obtain ⟨q0, q1, q2, q3, q4⟩ := hx1.cells
    have q5 := hx1.frozen
    clear hx1
    have hre : Below w1.heap.size w1 w1.drew := (Below.refl _ _).drew
    go_cut [3] (fun s wx => ∃ (bo : Nat) (A' : Option Addr) (c' : Nat), s = .pointer (some ⟨bo, 0, none⟩) ∧ w1.heap.size ≤ bo ∧ Box5 wx bo (.int .i64 d.kind) (.int .i64 d.num) (.string d.str) (.slice A' d.keys.length c') (.slice none 0 0) ∧ wx.ownsRow w1.heap.size 9 1 (.slice A' d.keys.length c') d.keys.length (d.keys.map Value.string) ∧ (Value.slice A' d.keys.length c').ownBlock ≠ some bo ∧ Below w1.heap.size w1 wx)
    case first =>
      have hS : ∀ X : World, Below w1.heap.size w1 X → X.cell? ⟨w.heap.size, 0, none⟩ = some (.int .i64 d.kind) ∧ X.cell? ⟨w.heap.size, 1, none⟩ = some (.int .i64 d.num) ∧ X.cell? ⟨w.heap.size, 2, none⟩ = some (.string d.str) ∧ X.cell? ⟨w.heap.size, 3, none⟩ = some (.slice A3 d.keys.length c3) := fun X h => by
        have hX : ∀ o, X.cell? ⟨w.heap.size, o, none⟩ = w1.cell? ⟨w.heap.size, o, none⟩ := fun o => h.cell (p := ⟨w.heap.size, o, none⟩) (by show w.heap.size < _; omega)
        exact ⟨(hX _).trans q0, (hX _).trans q1, (hX _).trans q2, (hX _).trans q3⟩
      have HS := Lib.hid hS
      clear hS q0 q1 q2 q3 q4 q5
      go_region_held3 (fun w' => w'.cell? ⟨w.heap.size, 0, none⟩ = some (.int .i64 d.kind) ∧ w'.cell? ⟨w.heap.size, 1, none⟩ = some (.int .i64 d.num) ∧ w'.cell? ⟨w.heap.size, 2, none⟩ = some (.string d.str) ∧ w'.cell? ⟨w.heap.size, 3, none⟩ = some (.slice A3 d.keys.length c3))
        ((with_reducible refine HS.out _ ?_; repeat (first | with_reducible exact Below.refl _ _ | with_reducible exact hb2 | with_reducible refine Below.drew ?_ | (with_reducible refine Below.alloc ?_ ?_ _; rotate_left; (focus (first | omega | (simp; done) | (simp; omega)))) | (with_reducible refine Below.setCell ?_ ?_ _; rotate_left; (focus (first | (show w1.heap.size ≤ w1.heap.size; omega) | (show w1.heap.size ≤ w2.heap.size; omega) | (simp; omega)))))))
        ((first
        | (refine step_append_strs (by rfl) _ _ (by rfl) w1.heap.size B 0 _ _ [] d.keys (by rfl) (by rfl)
             (own_empty (by omega) (by first | exact heap_alloc_new' (by first | exact hz1 | simp [hz1]) _ | exact (Below.heap_alloc _ _ _ (by simp [hz1])).trans (heap_alloc_new' (by first | exact hz1 | simp [hz1]) _)))
             (HS3.out.keep fun p hp => Below.cell (B := w1.heap.size) (by first | exact ((Below.refl _ w1).alloc (Nat.le_refl _) _).drew | exact (((Below.refl _ w1).alloc (Nat.le_refl _) _).alloc (by simp) _).drew) (by omega)) (by omega) (by first | (simp [World.drew]; done) | (simp [World.drew]; omega)) ?_
           intro v' w2 hown2 hgrow2 hat2
           have hb2 : Below w1.heap.size w1 w2 := by
             first
               | exact (((Below.refl _ w1).alloc (Nat.le_refl _) _).drew).trans ⟨hgrow2.os, hgrow2.tape, hgrow2.output, hgrow2.size, fun j hj => hgrow2.block j (by simp [World.drew]; omega) (by simp [Value.ownBlock]; omega)⟩
               | exact ((((Below.refl _ w1).alloc (Nat.le_refl _) _).alloc (by simp) _).drew).trans ⟨hgrow2.os, hgrow2.tape, hgrow2.output, hgrow2.size, fun j hj => hgrow2.block j (by simp [World.drew]; omega) (by simp [Value.ownBlock]; omega)⟩
           have hx2 := HX1.out.same (hb2.block _ (by omega))
           obtain ⟨p0, p1, p2, p3, p4⟩ := hx2.cells
           have p5 := hx2.frozen
           rw [Nat.zero_add, List.nil_append] at hown2
           obtain ⟨A', c', rfl⟩ := ownsRow_slice hown2
           clear hx2
           have hs2 : w.heap.size < w2.heap.size := by have := hb2.size; omega
           have hz2 := hb2.size
           have hat3 : ∀ j, (Value.slice A' d.keys.length c').ownBlock = some j → j < w2.heap.size := fun j e => (hown2.lt j e).2
           first
             | (have hy := grow_EO hgrow2 rfl (by simp [Value.ownBlock, hz1]); rw [hz1] at hy; obtain ⟨o0, o1, o2, o3, o4⟩ := hy.cells; have o5 := hy.frozen; have HY := Lib.hid hy; clear hy)
             | (have hy := grow_OE hgrow2 rfl (by simp [Value.ownBlock, hz1]); rw [hz1] at hy; obtain ⟨o0, o1, o2, o3, o4⟩ := hy.cells; have o5 := hy.frozen; have HY := Lib.hid hy; clear hy)
             | skip)))
      all_goals (go_wp2_with fail)
      all_goals go_meet
      all_goals first
        | (have hne : (Value.slice A' d.keys.length c').ownBlock ≠ some w2.heap.size := fun e => by have := hat3 _ e; omega
           with_reducible exact ⟨_, _, _, rfl, hb2.size, Box5.new w2 _ _ _ _ _, hown2.alloc _, hne, hb2.alloc hb2.size _⟩)
        | (have hne : (Value.slice A' d.keys.length c').ownBlock ≠ some (w.heap.size + 2 + 1) := fun e => by rw [e] at hat2; simp [Value.ownBlock, World.drew, hz1] at hat2
           have hf := store_fin (kd := d.kind) (nm := d.num) (st := d.str) HY.out hown2 hne (by omega) hb2
           exact ⟨_, _, _, rfl, by omega, hf.1, hf.2.1, hne, hf.2.2⟩)
        | (have hne : (Value.slice A' d.keys.length c').ownBlock ≠ some (w.heap.size + 2) := fun e => by rw [e] at hat2; simp [Value.ownBlock, World.drew, hz1] at hat2
           have hf := store_fin (kd := d.kind) (nm := d.num) (st := d.str) HY.out hown2 hne (by omega) hb2
           exact ⟨_, _, _, rfl, by omega, hf.1, hf.2.1, hne, hf.2.2⟩)
    case rest =>
      obtain ⟨bo, A', c', rfl, hbo, hbx, hko, hkne, hbw⟩ := hcut
      generalize wc = w3 at *
      have hz3 := hbw.size
      have hb3 := hbx.lt
      have HBX := Lib.hid hbx; have HBW := Lib.hid hbw
      have HB3 := Lib.hid (HB1.out.trans (hbw.mono (by omega)))
      have HKS3 := Lib.hid (strsS_own3 hko hkne)
      clear hbx hko hkne hbw q0 q1 q2 q3 q4 q5 hre
      go_wp2_with fail
      go_loopw [4] (fun i wr => ∃ (k : Nat) (v4 : Value) (cs : List Value), k ≤ d.kids.length ∧ i = .int .i64 k ∧ DocN w3 wr (fun k => w1.heap.size ≤ k) bo d.kind d.num d.str d.keys (d.kids.take k) (.slice A' d.keys.length c') v4 cs) (fun i _ => d.kids.length - (intOf i).toNat)
      case atStart => exact ⟨0, _, [], Nat.zero_le _, rfl, HBX.out, HKS3.out, World.ownsRow_nil _ _ _ _, rfl, Turned.of_below (Below.refl _ _) _ _⟩
      case round =>
        obtain ⟨k, v4, cs, hk0, rfl, hst⟩ := hrel
        have HST := Lib.hid hst
        have hzr := hst.t.size
        clear hst
        have hkeep : ∀ j, j < w1.heap.size → wr.heap[j]? = w1.heap[j]? := fun j hj => (HST.out.t.block j (by omega) (by simp) (by omega)).trans (HBW.out.block j hj)
        have HTR := Lib.hid (HX1.out.same (hkeep _ (by omega)))
        have HRR := Lib.hid (HR1.out.same (hkeep _ (by omega)))
        have HLOW : Hid (∀ p : Addr, p.block < w.heap.size → wr.cell? p = w.cell? p) := Lib.hid (fun p hp => World.cell?_of_block (a := p) ((hkeep p.block (by omega)).trans (HB1.out.block p.block hp)))
        clear hkeep
        obtain ⟨t0, t1, t2, t3, t4⟩ := HTR.out.cells
        have htl : w.heap.size < wr.heap.size := by omega
        by_cases hlt : k < d.kids.length
        · obtain ⟨A4', c4', e4, _, hkk⟩ := HKV.out
          injection e4 with e41 e42 e43
          subst e41; subst e43
          obtain ⟨bk, offk, rfl, hbk, hkw⟩ := hkk (by omega)
          obtain ⟨u0, u1, u2, u3, u4, g0, g1, g2, g3, g4, hyi⟩ := hkw.at_ k hlt
          simp only [Nat.zero_add] at g0 g1 g2 g3 g4
          obtain ⟨y, hye⟩ : ∃ y, y = d.kids[k] := ⟨_, rfl⟩
          rw [← hye] at hyi
          obtain ⟨Y3, y3, Y4, y4, rfl, rfl, rfl, rfl, rfl⟩ := hyi.forms
          rw [← HLOW.out ⟨bk, _, none⟩ (by show bk < _; omega)] at g0 g1 g2 g3 g4
          have HYI := Lib.hid (hyi.keep (w' := wr) (Nat.le_refl B) fun p hp => HLOW.out p (by omega))
          have HFY : Hid y.Fit := Lib.hid (by rw [hye]; exact HF.out.kid hlt)
          have hdy : y.depth ≤ m := by have h1 := ddepth_at d.kids k hlt; rw [← hye] at h1; omega
          have HLS : Hid (d.kids.take (k + 1) = d.kids.take k ++ [y]) := Lib.hid (by rw [List.take_succ_eq_append_getElem hlt, hye])
          have hpd : (d.kids.take k).length ≤ 10000 := by have := List.length_take_le k d.kids; omega
          have hik0 : (0 : Int) ≤ (k : Int) := by omega
          have hik1 : (k : Int) < (d.kids.length : Int) := by omega
          clear hye hyi hkk hkw e42
          go_upto_region 5 with fail
          clear t0 t1 t2 t3 t4
          generalize d.kids.take k = LS at *
          obtain ⟨w6, hw6⟩ : ∃ w6, w6 = wr := ⟨_, rfl⟩
          rw [← hw6] at HST HTR HYI g0 g1 g2 g3 g4 hzr htl ⊢
          clear hw6 HLOW HRR
          have HST6 := HST
          obtain ⟨t0, t1, t2, t3, t4⟩ := HTR.out.cells
          have hbkl : bk < w6.heap.size := by omega
          obtain ⟨q0, q1, q2, q3, q4⟩ := HST6.out.bx.cells
          have q5 := HST6.out.bx.frozen
          have hl4 := HST6.out.o4.lt
          have ag4 : v4.ownBlock ≠ some bo := fun h => by have := (hl4 _ h).1; omega
          obtain ⟨j0, hj, hy0, hy1, hy2⟩ := info_parts infoD
          have HJ := Lib.hid hj; have HJ0 := Lib.hid hy0; have HJ1 := Lib.hid hy1; have HJ2 := Lib.hid hy2
          clear hj hy0 hy1 hy2
          go_region_law (first
            | (refine step_append_lies _ (by rfl) _ _ _ (by rfl) w3.heap.size 29 j0 (.agg #[.int .i64 0, .int .i64 0, .string ByteArray.empty, .slice none 0 0, .slice none 0 0]) 5 80 Tryz.underlying27 HJ.out HJ0.out HJ1.out HJ2.out (by rfl) (by omega) v4 LS.length cs (by rfl) (HO47.out.alloc _) ⟨w7.heap.size, 0, none⟩ 1 1
                 [.int .i64 y.kind, .int .i64 y.num, .string y.str, .slice A7 y.keys.length c7, .slice A8 y.kids.length c8] (by rfl) (by rfl) (World.news_of_block (cs := #[.int .i64 y.kind, .int .i64 y.num, .string y.str, .slice A7 y.keys.length c7, .slice A8 y.kids.length c8]) (t := 29) (fr := (0, 0)) (heap_alloc_new w7 _)) (by simp [Value.oneCell']) (by omega) (by unfold maxLen; omega) (by omega) (by simp; omega) (w7.heap.size + 1) (by simp) ?_
               intro g8 cap8 w8 hown8 hgrow8 hat8 hlt8
               have mf8 : w8.frozen? ⟨bo, 4, none⟩ = false := ((hgrow8.frozen_far ⟨bo, 4, none⟩ (by simp; omega) (Ne.symm ag4)).trans ((frozen_alloc_lt hbl7 _ 4).trans (mf7 4)))
               have m48 := (hgrow8.cell_far ⟨bo, 4, none⟩ (by simp; omega) (Ne.symm ag4)).trans ((cell_alloc_lt' hbl7 _ 4).trans m47))
            | (go_wp2_with fail
               go_at_call 22
               refine (IH.out y _ _ _ _ _ w6.drew B hdy HFY.out (by show B ≤ w6.heap.size; omega) (DocIn.keep (w := w6) (w' := w6.drew) (Nat.le_refl _) (fun _ _ => rfl) HYI.out)).mono ?_
               rintro e w7 ⟨z0, z1, z2, z3, z4, rfl, hG, hb7⟩
               obtain ⟨A7, c7, A8, c8, rfl, rfl, rfl, rfl, rfl⟩ := hG.forms
               have hb67 : Below w6.heap.size w6 w7 := (Below.refl _ _).drew.trans hb7
               have hG' : DocS w7 (fun k => w6.heap.size ≤ k ∧ k < w7.heap.size) y (.int .i64 y.kind) (.int .i64 y.num) (.string y.str) (.slice A7 y.keys.length c7) (.slice A8 y.kids.length c8) := hG
               have HG7 := Lib.hid hG'
               have hz7 : w6.heap.size ≤ w7.heap.size := hb67.size
               have HO47 : Hid (w7.ownsRow w3.heap.size 29 5 v4 LS.length cs) := ownsRow_same HST6.out.o4 fun j hj => hb67.block j (HST6.out.o4.lt j (blk_mem.1 hj)).2
               have HKS : Hid (∀ j, w6.heap.size ≤ j ∧ j < w7.heap.size → MKid w3 w7 (fun k => w1.heap.size ≤ k) bo (.slice none 0 0) v4 j) := Lib.hid (fun j hj => ⟨.inr (by omega), hj.2, by omega, by simp [Value.ownBlock], fun e => by have := hl4 _ e; omega⟩)
               have hbl7 : bo < w7.heap.size := by omega
               have m47 : w7.cell? ⟨bo, 4, none⟩ = some v4 := (hb67.cell (p := ⟨bo, 4, none⟩) (by show bo < w6.heap.size; omega)).trans q4
               have mf7 : ∀ i, w7.frozen? ⟨bo, i, none⟩ = false := fun i => (World.frozen?_of_block (a := ⟨bo, i, none⟩) (hb67.block bo (by omega))).trans (q5 i)
               have HB67 := Lib.hid hb67
               clear hG hG' hb7 hb67))
          all_goals (go_wp2_with fail)
          all_goals go_roundw
          all_goals first
            | (exact ⟨k + 1, _, _, by omega, by go_num, by rw [HLS.out]; exact HST6.out.kid (by omega) HB67.out HG7.out HKS.out hown8 _ hgrow8 hat8⟩)
            | (simp [intOf]; omega)
        · have hkl : k = d.kids.length := by omega
          subst hkl
          have hst2 := HST.out
          rw [List.take_length] at hst2
          have HST2 := Lib.hid hst2
          clear hst2 HST
          obtain ⟨q0, q1, q2, q3, q4⟩ := HST2.out.bx.cells
          obtain ⟨r0, r1, r2, r3, r4⟩ := HRR.out.cells
          have r5 := HRR.out.frozen
          obtain ⟨A7, c7, rfl⟩ := ownsRow_slice HST2.out.o4
          go_wp2_with fail
          have hfin := ((((HRR.out.set0 (.int .i64 d.kind)).set1 (.int .i64 d.num)).set2 (.string d.str)).set3 (.slice A' d.keys.length c')).set4 (.slice A7 d.kids.length c7)
          clear q0 q1 q2 q3 q4 r0 r1 r2 r3 r4 r5 t0 t1 t2 t3 t4
          refine ret_cell5 rfl rfl hfin.load rfl ?_
          exact rdeep_out (w := w) (w1 := w1) HST2.out (by obtain ⟨_, _, _, _, _⟩ := d; rfl) (by omega) (by omega) (by omega) (by omega) HB3.out
end Go.Proofs.YteecdmceleanjaaGreatDoor
