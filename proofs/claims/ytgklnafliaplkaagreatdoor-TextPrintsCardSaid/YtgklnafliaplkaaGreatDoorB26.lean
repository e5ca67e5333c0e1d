/-
  text.write: its three closures.
  From the row's reading of a document to 'DocIn', with its numbers' bounds.
-/
import Derived.Test.YtgklnafliaplkaaGreatDoorB25
import Derived.Test.YtgklnafliaplkaaGreatDoorB19
import Derived.Deep.RegionHeld3
import Derived.Test.YtgklnafliaplkaaGreatDoorB01
namespace Go.Proofs.YtgklnafliaplkaaGreatDoor
open Go.RowKit

theorem BldTo.refl {B b : Nat} {l : List UInt8} {w w1 : World} (h : BldTo B b l w w1) : BldTo B b l w1 w1 := ⟨h.1, Below.refl _ _, Lib.OthersKept.refl _ _ _⟩
/-- What a writer of documents stands on: the builder's and the document's variables, the document, the table. -/
structure PW (B b BB xb xd : Nat) (d : D) (v0 v1 v2 v3 v4 : Value) (w : World) : Prop where
  pb : w.heap[xb]? = some (.cells #[.pointer (some ⟨b, 0, none⟩)] 54 (0, 0))
  pd : Box5 w xd v0 v1 v2 v3 v4
  doc : DocIn w BB d v0 v1 v2 v3 v4
  tab : Lib.TabIs Tryz.prog w "internal/strconv.uint64pow10" .u64 Lib.pow10Tab
theorem PW.next {B b BB xb xd : Nat} {d : D} {v0 v1 v2 v3 v4 : Value} {w w' : World} {l : List UInt8} (h : PW B b BB xb xd d v0 v1 v2 v3 v4 w) (t : BldTo B b l w w') (hBB : BB ≤ B) (hg : 3 < B) (h1 : xb ≠ b) (h2 : xd ≠ b) : PW B b BB xb xd d v0 v1 v2 v3 v4 w' :=
  ⟨t.2.2 xb _ h.pb (by simp; omega) (by intro c fz hh; injection hh with _ hh _; exact absurd hh (by decide)), t.2.2 xd _ h.pd (by simp; omega) (by intro c fz hh; injection hh with _ hh _; exact absurd hh (by decide)),
   h.doc.keep (Nat.le_refl _) (fun p hp => t.2.1.cell (by omega)), tx_tab_same h.tab (t.2.1.block _ hg)⟩
mutual
/-- All numbers are ints. -/
def D.Nums : D → Prop
  | .mk _ n _ _ l => (-9223372036854775808 ≤ n ∧ n ≤ 9223372036854775807) ∧ D.NumsL l
def D.NumsL : List D → Prop
  | [] => True
  | d :: r => d.Nums ∧ D.NumsL r
end
theorem D.NumsL.at_ : ∀ {l : List D}, D.NumsL l → ∀ {i : Nat} (hi : i < l.length), (l[i]).Nums
  | [], _, i, hi => by simp at hi
  | d :: r, h, 0, _ => by simp only [D.NumsL] at h; exact h.1
  | d :: r, h, i + 1, hi => by simp only [D.NumsL] at h; exact D.NumsL.at_ h.2 (by simpa using hi)
theorem D.Nums.kid {d : D} (h : d.Nums) {i : Nat} (hi : i < d.kids.length) : (d.kids[i]).Nums := by obtain ⟨_, _, _, _, _⟩ := d; simp only [D.Nums] at h; exact h.2.at_ hi
theorem D.Nums.num {d : D} (h : d.Nums) : -9223372036854775808 ≤ d.num ∧ d.num ≤ 9223372036854775807 := by obtain ⟨_, _, _, _, _⟩ := d; simp only [D.Nums] at h; exact h.1
/-- That documents so deep are written. -/
def DWrites (B b BB m : Nat) : Prop := ∀ (d : D) (v0 v1 v2 v3 v4 : Value) (l : List UInt8) (w : World), d.depth ≤ m → d.Fit → d.Nums → DocIn w BB d v0 v1 v2 v3 v4 → Bld B b l w → B ≤ w.heap.size → Lib.TabIs Tryz.prog w "internal/strconv.uint64pow10" .u64 Lib.pow10Tab → l.length + (printD d).length ≤ 8000000 →
  Calls Tryz.prog 29 #[.pointer (some ⟨b, 0, none⟩), .agg #[v0, v1, v2, v3, v4]] w fun e w' => e = .returned (.tuple #[]) ∧ BldTo B b (l ++ printD d) w w'
theorem PW.drew {B b BB xb xd : Nat} {d : D} {v0 v1 v2 v3 v4 : Value} {w : World} (h : PW B b BB xb xd d v0 v1 v2 v3 v4 w) : PW B b BB xb xd d v0 v1 v2 v3 v4 w.drew :=
  ⟨h.pb, h.pd, DocIn.keep (w := w) (w' := w.drew) (Nat.le_refl _) (fun _ _ => rfl) h.doc, tx_tab_same (w := w) (w' := w.drew) h.tab rfl⟩
theorem Bld.drew {B b : Nat} {l : List UInt8} {w : World} (h : Bld B b l w) : Bld B b l w.drew := by
  rcases h with h | h
  · exact .inl h.drew
  · exact .inr h.drew
theorem BldTo.undrew {B b : Nat} {l : List UInt8} {w w' : World} (h : BldTo B b l w.drew w') : BldTo B b l w w' := ⟨h.1, ⟨h.2.1.os, h.2.1.tape, h.2.1.output, h.2.1.size, h.2.1.block⟩, h.2.2⟩
set_option maxHeartbeats 8000000 in
set_option maxRecDepth 100000 in
theorem write3_any {B b BB m xb xd k : Nat} {d : D} {v0 v1 v2 v3 v4 : Value} {l : List UInt8} {w : World} (HD : DWrites B b BB m) (hBB : BB ≤ B) (hg : 3 < B) (hxb : xb ≠ b) (hxd : xd ≠ b) (hdp : d.depth ≤ m + 1) (hf : d.Fit) (hnu : d.Nums) (hp : PW B b BB xb xd d v0 v1 v2 v3 v4 w) (hb : Bld B b l w) (hBw : B ≤ w.heap.size) (hk : k < d.kids.length) (hlen : l.length + (printD d.kids[k]).length ≤ 8000000) :
    Calls Tryz.prog 53 #[.int .i64 (k : Nat), .pointer (some ⟨xb, 0, none⟩), .pointer (some ⟨xd, 0, none⟩)] w fun e w' => e = .returned (.tuple #[]) ∧ BldTo B b (l ++ printD d.kids[k]) w w' := by
  obtain ⟨A3, c3, A4, c4, rfl, rfl, rfl, rfl, rfl⟩ := hp.doc.forms
  obtain ⟨-, hc4, hkids⟩ := hp.doc.kids_
  obtain ⟨b4, off4, rfl, hb4, hkin⟩ := hkids (by omega)
  obtain ⟨u0, u1, u2, u3, u4, g0, g1, g2, g3, g4, hkid⟩ := hkin.at_ k hk
  rw [Nat.zero_add] at g0 g1 g2 g3 g4
  obtain ⟨A5, c5, A6, c6, rfl, rfl, rfl, rfl, rfl⟩ := hkid.forms
  obtain ⟨kd, hkd⟩ : ∃ kd, kd = d.kids[k] := ⟨_, rfl⟩
  have hkdep : kd.depth ≤ m := by have := D.depth_kid (d := d) hk; rw [← hkd] at this; omega
  have hkfit : kd.Fit := by rw [hkd]; exact hf.kid hk
  have hknum : kd.Nums := by rw [hkd]; exact hnu.kid hk
  rw [← hkd] at g0 g1 g2 g3 g4 hkid hlen ⊢
  have hki : (k : Int) < (d.kids.length : Int) := by omega
  have hk0 : (0 : Int) ≤ (k : Int) := by omega
  have HSK : Hid (∀ X, PW B b BB xb xd d (.int .i64 d.kind) (.int .i64 d.num) (.string d.str) (.slice A3 d.keys.length c3) (.slice (some ⟨b4, off4, none⟩) d.kids.length c4) X → (∀ o, X.cell? ⟨b4, o, none⟩ = w.cell? ⟨b4, o, none⟩) → X.cell? ⟨xb, 0, none⟩ = some (.pointer (some ⟨b, 0, none⟩)) ∧ X.cell? ⟨xd, 4, none⟩ = some (.slice (some ⟨b4, off4, none⟩) d.kids.length c4) ∧ X.cell? ⟨b4, off4 + k * 5, none⟩ = some (.int .i64 kd.kind) ∧ X.cell? ⟨b4, off4 + k * 5 + 1, none⟩ = some (.int .i64 kd.num) ∧ X.cell? ⟨b4, off4 + k * 5 + 2, none⟩ = some (.string kd.str) ∧ X.cell? ⟨b4, off4 + k * 5 + 3, none⟩ = some (.slice A5 kd.keys.length c5) ∧ X.cell? ⟨b4, off4 + k * 5 + 4, none⟩ = some (.slice A6 kd.kids.length c6)) := Lib.hid fun X h1 hh =>
    ⟨rdr_cell h1.pb, h1.pd.cells.2.2.2.2, (hh _).trans g0, (hh _).trans g1, (hh _).trans g2, (hh _).trans g3, (hh _).trans g4⟩
  have HKID : Hid (∀ X : World, (∀ p : Addr, p.block < BB → X.cell? p = w.cell? p) → DocIn X BB kd (.int .i64 kd.kind) (.int .i64 kd.num) (.string kd.str) (.slice A5 kd.keys.length c5) (.slice A6 kd.kids.length c6)) := Lib.hid fun X hX => hkid.keep (Nat.le_refl _) hX
  have HP := Lib.hid hp; have HB := Lib.hid hb; have HDD := Lib.hid HD
  clear hp hb HD hkin hkids hkid hkd
  have hcall := HDD.out kd _ _ _ _ _ (l) w.drew hkdep hkfit hknum (HKID.out w.drew fun p hp => rfl) HB.out.drew (by first | exact hBw | omega) HP.out.drew.tab (by exact hlen)
  have HS : Hid (∀ X l', BldTo B b l' w.drew X → X.cell? ⟨xb, 0, none⟩ = some (.pointer (some ⟨b, 0, none⟩)) ∧ X.cell? ⟨xd, 4, none⟩ = some (.slice (some ⟨b4, off4, none⟩) d.kids.length c4) ∧ X.cell? ⟨b4, off4 + k * 5, none⟩ = some (.int .i64 kd.kind) ∧ X.cell? ⟨b4, off4 + k * 5 + 1, none⟩ = some (.int .i64 kd.num) ∧ X.cell? ⟨b4, off4 + k * 5 + 2, none⟩ = some (.string kd.str) ∧ X.cell? ⟨b4, off4 + k * 5 + 3, none⟩ = some (.slice A5 kd.keys.length c5) ∧ X.cell? ⟨b4, off4 + k * 5 + 4, none⟩ = some (.slice A6 kd.kids.length c6)) := Lib.hid fun X l' hX => HSK.out X (PW.next HP.out.drew hX hBB hg hxb hxd) fun o => (hX.2.1.cell (p := ⟨b4, o, none⟩) (by show b4 < B; omega)).trans (rfl)
  obtain ⟨s0, s1, s2, s3, s4, s5, s6⟩ := HSK.out w HP.out (fun o => rfl)
  have HC := Lib.hid hcall
  clear hcall
  clear g0 g1 g2 g3 g4
  go_enter Tryz.func53, Tryz.ntmps53
  go_region_held3 (fun X => X.cell? ⟨xb, 0, none⟩ = some (.pointer (some ⟨b, 0, none⟩)) ∧ X.cell? ⟨xd, 4, none⟩ = some (.slice (some ⟨b4, off4, none⟩) d.kids.length c4) ∧ X.cell? ⟨b4, off4 + k * 5, none⟩ = some (.int .i64 kd.kind) ∧ X.cell? ⟨b4, off4 + k * 5 + 1, none⟩ = some (.int .i64 kd.num) ∧ X.cell? ⟨b4, off4 + k * 5 + 2, none⟩ = some (.string kd.str) ∧ X.cell? ⟨b4, off4 + k * 5 + 3, none⟩ = some (.slice A5 kd.keys.length c5) ∧ X.cell? ⟨b4, off4 + k * 5 + 4, none⟩ = some (.slice A6 kd.kids.length c6))
    (first | exact ⟨s0, s1, s2, s3, s4, s5, s6⟩ | with_reducible exact HS.out _ _ hb5)
    ((first
      | (go_at_call 29
         refine HC.out.mono ?_
         rintro e w5 ⟨rfl, hb5⟩)))
  have HB5 := Lib.hid (BldTo.undrew hb5)
  clear hb5
  go_end0
  exact ⟨rfl, HB5.out⟩
set_option maxHeartbeats 8000000 in
set_option maxRecDepth 100000 in
theorem write1_any {B b BB m xb xd k : Nat} {d : D} {v0 v1 v2 v3 v4 : Value} {l : List UInt8} {w : World} (HD : DWrites B b BB m) (hBB : BB ≤ B) (hg : 3 < B) (hxb : xb ≠ b) (hxd : xd ≠ b) (hdp : d.depth ≤ m + 1) (hf : d.Fit) (hnu : d.Nums) (hp : PW B b BB xb xd d v0 v1 v2 v3 v4 w) (hb : Bld B b l w) (hBw : B ≤ w.heap.size) (hk : k < d.kids.length) (hkk : k < d.keys.length) (hlen : l.length + (d.keys[k].data.toList ++ ([32, 61, 32] ++ printD d.kids[k])).length ≤ 8000000) :
    Calls Tryz.prog 50 #[.int .i64 (k : Nat), .pointer (some ⟨xb, 0, none⟩), .pointer (some ⟨xd, 0, none⟩)] w fun e w' => e = .returned (.tuple #[]) ∧ BldTo B b (l ++ (d.keys[k].data.toList ++ ([32, 61, 32] ++ printD d.kids[k]))) w w' := by
  obtain ⟨A3, c3, A4, c4, rfl, rfl, rfl, rfl, rfl⟩ := hp.doc.forms
  obtain ⟨-, hc4, hkids⟩ := hp.doc.kids_
  obtain ⟨b4, off4, rfl, hb4, hkin⟩ := hkids (by omega)
  obtain ⟨u0, u1, u2, u3, u4, g0, g1, g2, g3, g4, hkid⟩ := hkin.at_ k hk
  rw [Nat.zero_add] at g0 g1 g2 g3 g4
  obtain ⟨A5, c5, A6, c6, rfl, rfl, rfl, rfl, rfl⟩ := hkid.forms
  obtain ⟨kd, hkd⟩ : ∃ kd, kd = d.kids[k] := ⟨_, rfl⟩
  have hkdep : kd.depth ≤ m := by have := D.depth_kid (d := d) hk; rw [← hkd] at this; omega
  have hkfit : kd.Fit := by rw [hkd]; exact hf.kid hk
  have hknum : kd.Nums := by rw [hkd]; exact hnu.kid hk
  rw [← hkd] at g0 g1 g2 g3 g4 hkid hlen ⊢
  have hki : (k : Int) < (d.kids.length : Int) := by omega
  have hk0 : (0 : Int) ≤ (k : Int) := by omega
  have HSK : Hid (∀ X, PW B b BB xb xd d (.int .i64 d.kind) (.int .i64 d.num) (.string d.str) (.slice A3 d.keys.length c3) (.slice (some ⟨b4, off4, none⟩) d.kids.length c4) X → (∀ o, X.cell? ⟨b4, o, none⟩ = w.cell? ⟨b4, o, none⟩) → X.cell? ⟨xb, 0, none⟩ = some (.pointer (some ⟨b, 0, none⟩)) ∧ X.cell? ⟨xd, 4, none⟩ = some (.slice (some ⟨b4, off4, none⟩) d.kids.length c4) ∧ X.cell? ⟨b4, off4 + k * 5, none⟩ = some (.int .i64 kd.kind) ∧ X.cell? ⟨b4, off4 + k * 5 + 1, none⟩ = some (.int .i64 kd.num) ∧ X.cell? ⟨b4, off4 + k * 5 + 2, none⟩ = some (.string kd.str) ∧ X.cell? ⟨b4, off4 + k * 5 + 3, none⟩ = some (.slice A5 kd.keys.length c5) ∧ X.cell? ⟨b4, off4 + k * 5 + 4, none⟩ = some (.slice A6 kd.kids.length c6)) := Lib.hid fun X h1 hh =>
    ⟨rdr_cell h1.pb, h1.pd.cells.2.2.2.2, (hh _).trans g0, (hh _).trans g1, (hh _).trans g2, (hh _).trans g3, (hh _).trans g4⟩
  have HKID : Hid (∀ X : World, (∀ p : Addr, p.block < BB → X.cell? p = w.cell? p) → DocIn X BB kd (.int .i64 kd.kind) (.int .i64 kd.num) (.string kd.str) (.slice A5 kd.keys.length c5) (.slice A6 kd.kids.length c6)) := Lib.hid fun X hX => hkid.keep (Nat.le_refl _) hX
  obtain ⟨A3', c3', e3, hc3, hkeys⟩ := hp.doc.keys_
  injection e3 with e3 e3a e3b
  subst e3; subst e3b
  obtain ⟨b3, off3, rfl, hb3, hkeyc⟩ := hkeys (by omega)
  have gk := hkeyc k hkk
  obtain ⟨K, hK⟩ : ∃ K, K = d.keys[k] := ⟨_, rfl⟩
  have hKs : K.size ≤ 10000 := by rw [hK]; exact hf.key hkk
  rw [← hK] at gk hlen ⊢
  have hKl : (K.data.toList).length = K.size := by simp
  simp only [List.length_append, List.length_cons, List.length_nil] at hlen
  have hkk' : (k : Int) < (d.keys.length : Int) := by omega
  have HP := Lib.hid hp; have HB := Lib.hid hb; have HDD := Lib.hid HD
  have gx0 : w.cell? ⟨xb, 0, none⟩ = some (.pointer (some ⟨b, 0, none⟩)) := rdr_cell hp.pb
  have gx3 : w.cell? ⟨xd, 3, none⟩ = some (.slice (some ⟨b3, off3, none⟩) d.keys.length c3) := hp.pd.cells.2.2.2.1
  have HS0 : Hid (∀ X l', BldTo B b l' w.drew X → X.cell? ⟨xb, 0, none⟩ = some (.pointer (some ⟨b, 0, none⟩)) ∧ X.cell? ⟨xd, 3, none⟩ = some (.slice (some ⟨b3, off3, none⟩) d.keys.length c3) ∧ X.cell? ⟨b3, off3 + k, none⟩ = some (.string K)) := Lib.hid fun X l' hX => by
    have h1 := PW.next hp.drew hX hBB hg hxb hxd
    exact ⟨rdr_cell h1.pb, h1.pd.cells.2.2.2.1, (hX.2.1.cell (p := ⟨b3, off3 + k, none⟩) (by show b3 < B; omega)).trans gk⟩
  have HC0 := Lib.hid (bstring_any (w := w.drew) K hb.drew (by omega) hBw)
  have HG4 := Lib.hid (fun o (X : World) (h : Below B w X) => h.cell (p := ⟨b4, o, none⟩) (by show b4 < B; omega))
  clear hp hb HD hkin hkids hkid hkd hkeyc hkeys hK hf hKl g0 g1 g2 g3 g4
  go_enter Tryz.func50, Tryz.ntmps50
  go_wp2_with fail
  go_region_held3 (fun X => X.cell? ⟨xb, 0, none⟩ = some (.pointer (some ⟨b, 0, none⟩)) ∧ X.cell? ⟨xd, 3, none⟩ = some (.slice (some ⟨b3, off3, none⟩) d.keys.length c3) ∧ X.cell? ⟨b3, off3 + k, none⟩ = some (.string K))
    (first | exact ⟨gx0, gx3, gk⟩ | with_reducible exact HS0.out _ _ hb1)
    ((first
      | (go_at_call 51
         refine HC0.out.mono ?_
         rintro e w1 ⟨rfl, hb1⟩)))
  have HB1 := Lib.hid (BldTo.undrew hb1)
  have HP1 := Lib.hid (HP.out.next HB1.out hBB hg hxb hxd)
  have hz1 : B ≤ w1.heap.size := Nat.le_trans hBw HB1.out.2.1.size
  have q0 : w1.cell? ⟨xb, 0, none⟩ = some (.pointer (some ⟨b, 0, none⟩)) := rdr_cell HP1.out.pb
  clear hb1 gx0 gx3 gk
  go_wp2_with fail
  refine (bstring_any ⟨#[32, 61, 32]⟩ HB1.out.bld (by show _ + 3 ≤ _; simp; omega) hz1).mono ?_
  rintro e w2 ⟨rfl, hb2⟩
  have HB2 : Hid (BldTo B b ((l ++ K.data.toList) ++ [32, 61, 32]) w w2) := Lib.hid (HB1.out.trans hb2)
  have HP2 := Lib.hid (HP1.out.next hb2 hBB hg hxb hxd)
  have hz2 : B ≤ w2.heap.size := Nat.le_trans hz1 hb2.2.1.size
  have HBB2 := Lib.hid HB2.out.bld
  clear hb2 q0
  have hcall := HDD.out kd _ _ _ _ _ ((l ++ K.data.toList) ++ [32, 61, 32]) w2.drew hkdep hkfit hknum (HKID.out w2.drew fun p hp => HB2.out.2.1.cell (by omega)) HBB2.out.drew hz2 HP2.out.drew.tab (by simp only [List.length_append, List.length_cons, List.length_nil]; omega)
  have HS : Hid (∀ X l', BldTo B b l' w2.drew X → X.cell? ⟨xb, 0, none⟩ = some (.pointer (some ⟨b, 0, none⟩)) ∧ X.cell? ⟨xd, 4, none⟩ = some (.slice (some ⟨b4, off4, none⟩) d.kids.length c4) ∧ X.cell? ⟨b4, off4 + k * 5, none⟩ = some (.int .i64 kd.kind) ∧ X.cell? ⟨b4, off4 + k * 5 + 1, none⟩ = some (.int .i64 kd.num) ∧ X.cell? ⟨b4, off4 + k * 5 + 2, none⟩ = some (.string kd.str) ∧ X.cell? ⟨b4, off4 + k * 5 + 3, none⟩ = some (.slice A5 kd.keys.length c5) ∧ X.cell? ⟨b4, off4 + k * 5 + 4, none⟩ = some (.slice A6 kd.kids.length c6)) := Lib.hid fun X l' hX => HSK.out X (PW.next HP2.out.drew hX hBB hg hxb hxd) fun o => (hX.2.1.cell (p := ⟨b4, o, none⟩) (by show b4 < B; omega)).trans (HG4.out o w2 HB2.out.2.1)
  obtain ⟨s0, s1, s2, s3, s4, s5, s6⟩ := HSK.out w2 HP2.out (fun o => HG4.out o w2 HB2.out.2.1)
  have HC := Lib.hid hcall
  clear hcall
  go_wp2_with fail
  go_region_held3 (fun X => X.cell? ⟨xb, 0, none⟩ = some (.pointer (some ⟨b, 0, none⟩)) ∧ X.cell? ⟨xd, 4, none⟩ = some (.slice (some ⟨b4, off4, none⟩) d.kids.length c4) ∧ X.cell? ⟨b4, off4 + k * 5, none⟩ = some (.int .i64 kd.kind) ∧ X.cell? ⟨b4, off4 + k * 5 + 1, none⟩ = some (.int .i64 kd.num) ∧ X.cell? ⟨b4, off4 + k * 5 + 2, none⟩ = some (.string kd.str) ∧ X.cell? ⟨b4, off4 + k * 5 + 3, none⟩ = some (.slice A5 kd.keys.length c5) ∧ X.cell? ⟨b4, off4 + k * 5 + 4, none⟩ = some (.slice A6 kd.kids.length c6))
    (first | exact ⟨s0, s1, s2, s3, s4, s5, s6⟩ | with_reducible exact HS.out _ _ hb5)
    ((first
      | (go_at_call 29
         refine HC.out.mono ?_
         rintro e w5 ⟨rfl, hb5⟩)))
  have HB5 := Lib.hid (BldTo.undrew hb5)
  clear hb5
  go_end0
  exact ⟨rfl, by have h := HB2.out.trans HB5.out; simpa using h⟩
set_option maxHeartbeats 8000000 in
set_option maxRecDepth 100000 in
theorem write2_any {B b BB m xb xd k : Nat} {d : D} {v0 v1 v2 v3 v4 : Value} {l : List UInt8} {w : World} (HD : DWrites B b BB m) (hBB : BB ≤ B) (hg : 3 < B) (hxb : xb ≠ b) (hxd : xd ≠ b) (hdp : d.depth ≤ m + 1) (hf : d.Fit) (hnu : d.Nums) (hp : PW B b BB xb xd d v0 v1 v2 v3 v4 w) (hb : Bld B b l w) (hBw : B ≤ w.heap.size) (hk : k < d.kids.length) (hkk : k < d.keys.length) (hlen : l.length + (quoteL d.keys[k].data.toList ++ ([58, 32] ++ printD d.kids[k])).length ≤ 8000000) :
    Calls Tryz.prog 52 #[.int .i64 (k : Nat), .pointer (some ⟨xb, 0, none⟩), .pointer (some ⟨xd, 0, none⟩)] w fun e w' => e = .returned (.tuple #[]) ∧ BldTo B b (l ++ (quoteL d.keys[k].data.toList ++ ([58, 32] ++ printD d.kids[k]))) w w' := by
  obtain ⟨A3, c3, A4, c4, rfl, rfl, rfl, rfl, rfl⟩ := hp.doc.forms
  obtain ⟨-, hc4, hkids⟩ := hp.doc.kids_
  obtain ⟨b4, off4, rfl, hb4, hkin⟩ := hkids (by omega)
  obtain ⟨u0, u1, u2, u3, u4, g0, g1, g2, g3, g4, hkid⟩ := hkin.at_ k hk
  rw [Nat.zero_add] at g0 g1 g2 g3 g4
  obtain ⟨A5, c5, A6, c6, rfl, rfl, rfl, rfl, rfl⟩ := hkid.forms
  obtain ⟨kd, hkd⟩ : ∃ kd, kd = d.kids[k] := ⟨_, rfl⟩
  have hkdep : kd.depth ≤ m := by have := D.depth_kid (d := d) hk; rw [← hkd] at this; omega
  have hkfit : kd.Fit := by rw [hkd]; exact hf.kid hk
  have hknum : kd.Nums := by rw [hkd]; exact hnu.kid hk
  rw [← hkd] at g0 g1 g2 g3 g4 hkid hlen ⊢
  have hki : (k : Int) < (d.kids.length : Int) := by omega
  have hk0 : (0 : Int) ≤ (k : Int) := by omega
  have HSK : Hid (∀ X, PW B b BB xb xd d (.int .i64 d.kind) (.int .i64 d.num) (.string d.str) (.slice A3 d.keys.length c3) (.slice (some ⟨b4, off4, none⟩) d.kids.length c4) X → (∀ o, X.cell? ⟨b4, o, none⟩ = w.cell? ⟨b4, o, none⟩) → X.cell? ⟨xb, 0, none⟩ = some (.pointer (some ⟨b, 0, none⟩)) ∧ X.cell? ⟨xd, 4, none⟩ = some (.slice (some ⟨b4, off4, none⟩) d.kids.length c4) ∧ X.cell? ⟨b4, off4 + k * 5, none⟩ = some (.int .i64 kd.kind) ∧ X.cell? ⟨b4, off4 + k * 5 + 1, none⟩ = some (.int .i64 kd.num) ∧ X.cell? ⟨b4, off4 + k * 5 + 2, none⟩ = some (.string kd.str) ∧ X.cell? ⟨b4, off4 + k * 5 + 3, none⟩ = some (.slice A5 kd.keys.length c5) ∧ X.cell? ⟨b4, off4 + k * 5 + 4, none⟩ = some (.slice A6 kd.kids.length c6)) := Lib.hid fun X h1 hh =>
    ⟨rdr_cell h1.pb, h1.pd.cells.2.2.2.2, (hh _).trans g0, (hh _).trans g1, (hh _).trans g2, (hh _).trans g3, (hh _).trans g4⟩
  have HKID : Hid (∀ X : World, (∀ p : Addr, p.block < BB → X.cell? p = w.cell? p) → DocIn X BB kd (.int .i64 kd.kind) (.int .i64 kd.num) (.string kd.str) (.slice A5 kd.keys.length c5) (.slice A6 kd.kids.length c6)) := Lib.hid fun X hX => hkid.keep (Nat.le_refl _) hX
  obtain ⟨A3', c3', e3, hc3, hkeys⟩ := hp.doc.keys_
  injection e3 with e3 e3a e3b
  subst e3; subst e3b
  obtain ⟨b3, off3, rfl, hb3, hkeyc⟩ := hkeys (by omega)
  have gk := hkeyc k hkk
  obtain ⟨K, hK⟩ : ∃ K, K = d.keys[k] := ⟨_, rfl⟩
  have hKs : K.size ≤ 10000 := by rw [hK]; exact hf.key hkk
  rw [← hK] at gk hlen ⊢
  have hKl : (quoteL K.data.toList).length = (quoteL K.data.toList).length := by simp
  simp only [List.length_append, List.length_cons, List.length_nil] at hlen
  have hkk' : (k : Int) < (d.keys.length : Int) := by omega
  have HP := Lib.hid hp; have HB := Lib.hid hb; have HDD := Lib.hid HD
  have gx0 : w.cell? ⟨xb, 0, none⟩ = some (.pointer (some ⟨b, 0, none⟩)) := rdr_cell hp.pb
  have gx3 : w.cell? ⟨xd, 3, none⟩ = some (.slice (some ⟨b3, off3, none⟩) d.keys.length c3) := hp.pd.cells.2.2.2.1
  have HS0 : Hid (∀ X l', BldTo B b l' w.drew X → X.cell? ⟨xb, 0, none⟩ = some (.pointer (some ⟨b, 0, none⟩)) ∧ X.cell? ⟨xd, 3, none⟩ = some (.slice (some ⟨b3, off3, none⟩) d.keys.length c3) ∧ X.cell? ⟨b3, off3 + k, none⟩ = some (.string K)) := Lib.hid fun X l' hX => by
    have h1 := PW.next hp.drew hX hBB hg hxb hxd
    exact ⟨rdr_cell h1.pb, h1.pd.cells.2.2.2.1, (hX.2.1.cell (p := ⟨b3, off3 + k, none⟩) (by show b3 < B; omega)).trans gk⟩
  have HC0 := Lib.hid (quote_any (w := w.drew) K hb.drew (by omega) hBw)
  have HG4 := Lib.hid (fun o (X : World) (h : Below B w X) => h.cell (p := ⟨b4, o, none⟩) (by show b4 < B; omega))
  clear hp hb HD hkin hkids hkid hkd hkeyc hkeys hK hf hKl g0 g1 g2 g3 g4
  go_enter Tryz.func52, Tryz.ntmps52
  go_wp2_with fail
  go_region_held3 (fun X => X.cell? ⟨xb, 0, none⟩ = some (.pointer (some ⟨b, 0, none⟩)) ∧ X.cell? ⟨xd, 3, none⟩ = some (.slice (some ⟨b3, off3, none⟩) d.keys.length c3) ∧ X.cell? ⟨b3, off3 + k, none⟩ = some (.string K))
    (first | exact ⟨gx0, gx3, gk⟩ | with_reducible exact HS0.out _ _ hb1)
    ((first
      | (go_at_call 32
         refine HC0.out.mono ?_
         rintro e w1 ⟨rfl, hb1⟩)))
  have HB1 := Lib.hid (BldTo.undrew hb1)
  have HP1 := Lib.hid (HP.out.next HB1.out hBB hg hxb hxd)
  have hz1 : B ≤ w1.heap.size := Nat.le_trans hBw HB1.out.2.1.size
  have q0 : w1.cell? ⟨xb, 0, none⟩ = some (.pointer (some ⟨b, 0, none⟩)) := rdr_cell HP1.out.pb
  clear hb1 gx0 gx3 gk
  go_wp2_with fail
  refine (bstring_any ⟨#[58, 32]⟩ HB1.out.bld (by show _ + 2 ≤ _; simp; omega) hz1).mono ?_
  rintro e w2 ⟨rfl, hb2⟩
  have HB2 : Hid (BldTo B b ((l ++ quoteL K.data.toList) ++ [58, 32]) w w2) := Lib.hid (HB1.out.trans hb2)
  have HP2 := Lib.hid (HP1.out.next hb2 hBB hg hxb hxd)
  have hz2 : B ≤ w2.heap.size := Nat.le_trans hz1 hb2.2.1.size
  have HBB2 := Lib.hid HB2.out.bld
  clear hb2 q0
  have hcall := HDD.out kd _ _ _ _ _ ((l ++ quoteL K.data.toList) ++ [58, 32]) w2.drew hkdep hkfit hknum (HKID.out w2.drew fun p hp => HB2.out.2.1.cell (by omega)) HBB2.out.drew hz2 HP2.out.drew.tab (by simp only [List.length_append, List.length_cons, List.length_nil]; omega)
  have HS : Hid (∀ X l', BldTo B b l' w2.drew X → X.cell? ⟨xb, 0, none⟩ = some (.pointer (some ⟨b, 0, none⟩)) ∧ X.cell? ⟨xd, 4, none⟩ = some (.slice (some ⟨b4, off4, none⟩) d.kids.length c4) ∧ X.cell? ⟨b4, off4 + k * 5, none⟩ = some (.int .i64 kd.kind) ∧ X.cell? ⟨b4, off4 + k * 5 + 1, none⟩ = some (.int .i64 kd.num) ∧ X.cell? ⟨b4, off4 + k * 5 + 2, none⟩ = some (.string kd.str) ∧ X.cell? ⟨b4, off4 + k * 5 + 3, none⟩ = some (.slice A5 kd.keys.length c5) ∧ X.cell? ⟨b4, off4 + k * 5 + 4, none⟩ = some (.slice A6 kd.kids.length c6)) := Lib.hid fun X l' hX => HSK.out X (PW.next HP2.out.drew hX hBB hg hxb hxd) fun o => (hX.2.1.cell (p := ⟨b4, o, none⟩) (by show b4 < B; omega)).trans (HG4.out o w2 HB2.out.2.1)
  obtain ⟨s0, s1, s2, s3, s4, s5, s6⟩ := HSK.out w2 HP2.out (fun o => HG4.out o w2 HB2.out.2.1)
  have HC := Lib.hid hcall
  clear hcall
  go_wp2_with fail
  go_region_held3 (fun X => X.cell? ⟨xb, 0, none⟩ = some (.pointer (some ⟨b, 0, none⟩)) ∧ X.cell? ⟨xd, 4, none⟩ = some (.slice (some ⟨b4, off4, none⟩) d.kids.length c4) ∧ X.cell? ⟨b4, off4 + k * 5, none⟩ = some (.int .i64 kd.kind) ∧ X.cell? ⟨b4, off4 + k * 5 + 1, none⟩ = some (.int .i64 kd.num) ∧ X.cell? ⟨b4, off4 + k * 5 + 2, none⟩ = some (.string kd.str) ∧ X.cell? ⟨b4, off4 + k * 5 + 3, none⟩ = some (.slice A5 kd.keys.length c5) ∧ X.cell? ⟨b4, off4 + k * 5 + 4, none⟩ = some (.slice A6 kd.kids.length c6))
    (first | exact ⟨s0, s1, s2, s3, s4, s5, s6⟩ | with_reducible exact HS.out _ _ hb5)
    ((first
      | (go_at_call 29
         refine HC.out.mono ?_
         rintro e w5 ⟨rfl, hb5⟩)))
  have HB5 := Lib.hid (BldTo.undrew hb5)
  clear hb5
  go_end0
  exact ⟨rfl, by have h := HB2.out.trans HB5.out; simpa using h⟩
end Go.Proofs.YtgklnafliaplkaaGreatDoor
namespace Go.Proofs.YtgklnafliaplkaaGreatDoor
open Go.RowKit Go.Deep

theorem nbN {n : Int} (h : (Lit.int .i64 n).wf = true) : -9223372036854775808 ≤ n ∧ n ≤ 9223372036854775807 := by
  simp only [Lit.wf, Bool.and_eq_true, decide_eq_true_eq] at h
  have h1 : IntKind.min .i64 = -9223372036854775808 := by decide
  have h2 : IntKind.max .i64 = 9223372036854775807 := by decide
  rw [h1, h2] at h
  exact h
theorem numsL_of : ∀ {l : List D}, (∀ (i : Nat) (h : i < l.length), (l[i]).Nums) → D.NumsL l
  | [], _ => by simp [D.NumsL]
  | d :: r, hp => by
    simp only [D.NumsL]
    exact ⟨hp 0 (by simp), numsL_of fun i h => hp (i + 1) (by simpa using h)⟩
section
variable {H : Type} {enc : TypeId × Value → H} {W : World} {base : Nat} {sp : Nat → Bool} {held : Bool}
set_option maxRecDepth 100000 in
theorem open_docsN (N : Nat) : ∀ (fuel : Nat), fuel ≤ N → ∀ (cs : List Value) (x : DataW H × List MemPlace), DataW.trod enc Tryz.prog W base sp held fuel 25 cs = some x →
    ∃ (d : D) (v0 v1 v2 v3 v4 : Value), cs = [v0, v1, v2, v3, v4] ∧ DocIn W W.heap.size d v0 v1 v2 v3 v4 ∧ d.Nums := by
  induction N with
  | zero =>
    intro fuel hf cs x h
    obtain rfl : fuel = 0 := by omega
    simp [DataW.trod] at h
  | succ N ih =>
    intro fuel hf cs x h
    obtain ⟨xs, n, hn, _, hcl, hxl, hfd⟩ := DataW.trod_struct Tryz.underlying25 h
    rw [cDoc] at hcl
    match cs, hcl with
    | [v0, v1, v2, v3, v4], _ =>
      match xs, hxl with
      | [y0, y1, y2, y3, y4], _ =>
        have h0 : DataW.trod enc Tryz.prog W base sp held n 3 [v0] = some y0 := by simpa [cInt] using hfd 0 _ rfl
        have h1 : DataW.trod enc Tryz.prog W base sp held n 3 [v1] = some y1 := by simpa [cInt] using hfd 1 _ rfl
        have h2 : DataW.trod enc Tryz.prog W base sp held n 9 [v2] = some y2 := by simpa [cStr] using hfd 2 _ rfl
        have h3 : DataW.trod enc Tryz.prog W base sp held n 22 [v3] = some y3 := by simpa [cStrs] using hfd 3 _ rfl
        have h4 : DataW.trod enc Tryz.prog W base sp held n 23 [v4] = some y4 := by simpa [cDocs] using hfd 4 _ rfl
        obtain ⟨k, e0, _, _⟩ := DataW.trod_int Tryz.underlying3 h0
        obtain ⟨m, e1, _, hwm⟩ := DataW.trod_int Tryz.underlying3 h1
        obtain ⟨s, e2, _, _⟩ := DataW.trod_string Tryz.underlying9 h2
        obtain ⟨u3, ks, e3, hks, _, _⟩ := open_strs h3
        simp only [List.cons.injEq, and_true] at e0 e1 e2 e3
        subst e0; subst e1; subst e2; subst e3
        rcases DataW.trod_slice Tryz.underlying23 h4 with ⟨e4, _⟩ | ⟨a, len, cap, elems, rest, n', hn', e4, _, _, hl, _, hlen, hel, _, _⟩
        · simp only [List.cons.injEq, and_true] at e4
          subst e4
          refine ⟨.mk k m s ks [], _, _, _, _, _, rfl, ?_, by simp only [D.Nums, D.NumsL, and_true]; exact nbN hwm⟩
          simp only [DocIn]
          exact ⟨trivial, trivial, trivial, hks, none, 0, rfl, by simp, fun h => by simp at h⟩
        · simp only [List.cons.injEq, and_true] at e4
          subst e4
          rw [cDoc] at hel
          have hget : ∀ i, i < len → ∃ (d : D), ∃ v0 v1 v2 v3 v4 : Value, W.cell? ((a.add (i * 5)).add 0) = some v0 ∧ W.cell? ((a.add (i * 5)).add 1) = some v1 ∧ W.cell? ((a.add (i * 5)).add 2) = some v2 ∧ W.cell? ((a.add (i * 5)).add 3) = some v3 ∧ W.cell? ((a.add (i * 5)).add 4) = some v4 ∧ DocIn W W.heap.size d v0 v1 v2 v3 v4 ∧ d.Nums := by
            intro i hi
            have h' := hel i hi
            rw [List.getElem?_eq_getElem (by omega)] at h'
            obtain ⟨cs', hc1, hc2⟩ := Option.bind_eq_some_iff.1 h'
            obtain ⟨d, w0, w1, w2, w3, w4, rfl, hd⟩ := ih n' (by omega) cs' _ hc2
            have hc := (mapM_cells hc1).2
            exact ⟨d, w0, w1, w2, w3, w4, hc 0 (by omega), hc 1 (by omega), hc 2 (by omega), hc 3 (by omega), hc 4 (by omega), hd⟩
          obtain ⟨l, hll, hlp⟩ := pick_list len hget
          refine ⟨.mk k m s ks l, _, _, _, _, _, rfl, ?_, by
            simp only [D.Nums]
            exact ⟨nbN hwm, numsL_of fun i hi => by obtain ⟨_, _, _, _, _, _, _, _, _, _, _, hn⟩ := hlp i hi; exact hn⟩⟩
          simp only [DocIn]
          refine ⟨trivial, trivial, trivial, hks, some a, cap, by rw [hll], by omega, fun h0 => ?_⟩
          obtain ⟨_, _, _, _, _, hz, _⟩ := hlp 0 h0
          obtain ⟨q1, q2⟩ := cell_spot hz
          rw [show (a.add (0 * 5)).add 0 = a from by simp [Addr.add]] at q1 q2
          refine ⟨a.block, a.off, by rw [← q1], q2, KidsIn.of_at fun i hi => ?_⟩
          obtain ⟨w0, w1, w2, w3, w4, c0, c1, c2, c3, c4, hd, _⟩ := hlp i hi
          rw [q1, add_none, add_none] at c0 c1 c2 c3 c4
          rw [Nat.zero_add]
          exact ⟨w0, w1, w2, w3, w4, c0, c1, c2, c3, c4, hd⟩
theorem open_docN {v : Value} {d : DataW H} {p : List MemPlace} (h : DataW.Trod enc Tryz.prog W base sp held 25 v d p) (hv : ∃ cs, v = .agg cs) :
    ∃ (d : D) (v0 v1 v2 v3 v4 : Value), v = .agg #[v0, v1, v2, v3, v4] ∧ DocIn W W.heap.size d v0 v1 v2 v3 v4 ∧ d.Nums := by
  obtain ⟨fuel, hx⟩ := h
  obtain ⟨cs, rfl⟩ := hv
  obtain ⟨d, v0, v1, v2, v3, v4, e, hd⟩ := open_docsN fuel fuel (Nat.le_refl _) _ _ hx
  refine ⟨d, v0, v1, v2, v3, v4, ?_, hd⟩
  have : cs.toList = [v0, v1, v2, v3, v4] := e
  obtain ⟨l⟩ := cs
  simp only at this
  rw [this]
end
set_option maxRecDepth 100000 in
theorem agg_of_doc {W : World} {b0 : Nat} {v : Value} (h : Value.okWide Tryz.prog W .any b0 25 v) : ∃ cs, v = .agg cs := by
  unfold Value.okWide at h
  rw [Tryz.underlying25] at h
  obtain ⟨cs, h, _⟩ := h
  exact ⟨cs, h⟩
theorem byte_of {n : Int} (h : (Lit.int .u8 n).wf = true) : ∃ c : UInt8, n = (c.toNat : Int) := by
  simp only [Lit.wf, Bool.and_eq_true, decide_eq_true_eq] at h
  have h1 : IntKind.min .u8 = 0 := by decide
  have h2 : IntKind.max .u8 = 255 := by decide
  rw [h1, h2] at h
  refine ⟨UInt8.ofNat n.toNat, ?_⟩
  rw [UInt8.toNat_ofNat']
  omega
end Go.Proofs.YtgklnafliaplkaaGreatDoor
