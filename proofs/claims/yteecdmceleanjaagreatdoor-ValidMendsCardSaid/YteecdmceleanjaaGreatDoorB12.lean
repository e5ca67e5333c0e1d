/-
  The least document of a type: plain lemmas.
  The document's own Least: of a type without kids.
  The document's own Least: of a dictionary or a list.
  The document's own Least: of a dictionary or a list.
-/
import Derived.Test.YteecdmceleanjaaGreatDoorB01
import Derived.Lib.ItoaNum
import Derived.Test.YteecdmceleanjaaGreatDoorB05
import Derived.Test.YteecdmceleanjaaGreatDoorB07
import Derived.Test.YteecdmceleanjaaGreatDoorB02
import Derived.IntWalk
import Derived.Deep.RegionLaw
import Derived.Deep.CutRange
import Derived.BigRegion
namespace Go.Proofs.YteecdmceleanjaaGreatDoor
open Go.RowKit

def aStr (n : Nat) : ByteArray := ⟨(List.replicate n (97 : UInt8)).toArray⟩
def leastKind (k : Int) : Int := if k = 7 then 6 else k
def leastNum (k lo hi : Int) : Int := if k = 4 then max lo (min hi 0) else 0
def leastStr (k lo : Int) (ns : List ByteArray) : ByteArray := if k = 6 then aStr lo.toNat else if k = 7 then ns.headD ⟨#[]⟩ else ⟨#[]⟩
def leastN (lo : Int) : Nat := (min lo 8).toNat
def kKey (i : Nat) : ByteArray := ⟨#[107, UInt8.ofNat (48 + i)]⟩
theorem decDigits_one (i : Nat) (h : i < 10) : (Lib.decDigits i).toArray = #[UInt8.ofNat (48 + i)] := by rw [Lib.decDigits, dif_pos h]
def kKeys (n : Nat) : List ByteArray := (List.range n).map kKey
def keysF : List F → List ByteArray
  | [] => []
  | f :: r => (if f.opt then [] else [f.name]) ++ keysF r
def keysO (k lo : Int) (of : List T) : List ByteArray := if k = 2 then (if of.isEmpty then [] else kKeys (leastN lo)) else []
mutual
/-- What Least tells of a type that is right. -/
def T.least : T → D
  | .mk k lo hi ns fs of => .mk (leastKind k) (leastNum k lo hi) (leastStr k lo ns) (keysF fs ++ keysO k lo of) (leastF fs ++ leastO (leastN lo) of)
def leastF : List F → List D
  | [] => []
  | f :: r => leastF1 f ++ leastF r
def leastF1 : F → List D
  | .mk _ o t => if o then [] else [t.least]
def leastO (n : Nat) : List T → List D
  | [] => []
  | x :: r => List.replicate n x.least ++ leastO n r
end
theorem least_eq (t : T) : t.least = .mk (leastKind t.kind) (leastNum t.kind t.lo t.hi) (leastStr t.kind t.lo t.names) (keysF t.fields ++ keysO t.kind t.lo t.of) (leastF t.fields ++ leastO (leastN t.lo) t.of) := by
  obtain ⟨_, _, _, _, _, _⟩ := t; simp only [T.least, T.kind, T.lo, T.hi, T.names, T.fields, T.of]
theorem leastF1_eq (f : F) : leastF1 f = if f.opt then [] else [f.type.least] := by obtain ⟨_, _, _⟩ := f; simp only [leastF1, F.opt, F.type]; rfl
theorem keysF_append : ∀ a b : List F, keysF (a ++ b) = keysF a ++ keysF b
  | [], b => by simp [keysF]
  | f :: r, b => by simp only [List.cons_append, keysF, keysF_append r b, List.append_assoc]
theorem leastF_append : ∀ a b : List F, leastF (a ++ b) = leastF a ++ leastF b
  | [], b => by simp [leastF]
  | f :: r, b => by simp only [List.cons_append, leastF, leastF_append r b, List.append_assoc]
theorem keysF_take (l : List F) (k : Nat) (h : k < l.length) : keysF (l.take (k + 1)) = keysF (l.take k) ++ (if (l[k]).opt then [] else [(l[k]).name]) := by
  rw [List.take_succ_eq_append_getElem h, keysF_append]; simp [keysF]
theorem leastF_take (l : List F) (k : Nat) (h : k < l.length) : leastF (l.take (k + 1)) = leastF (l.take k) ++ (if (l[k]).opt then [] else [(l[k]).type.least]) := by
  rw [List.take_succ_eq_append_getElem h, leastF_append]; simp [leastF, leastF1_eq]
theorem keysF_len : ∀ l : List F, (keysF l).length ≤ l.length
  | [] => by simp [keysF]
  | f :: r => by have := keysF_len r; simp only [keysF, List.length_append, List.length_cons]; split <;> simp <;> omega
theorem leastF_len : ∀ l : List F, (leastF l).length = (keysF l).length
  | [] => by simp [keysF, leastF]
  | f :: r => by have := leastF_len r; simp only [keysF, leastF, leastF1_eq, List.length_append, this]; split <;> simp
theorem kKeys_succ (n : Nat) : kKeys (n + 1) = kKeys n ++ [kKey n] := by simp [kKeys, List.range_succ]
theorem kKeys_len (n : Nat) : (kKeys n).length = n := by simp [kKeys]
end Go.Proofs.YteecdmceleanjaaGreatDoor

namespace Go.Proofs.YteecdmceleanjaaGreatDoor
open Go.RowKit

/-- What root answers: no keys, no kids. -/
def RootTold (k n : Int) (s : ByteArray) (w : World) (e : Ending) (w' : World) : Prop := e = .returned (.agg #[.int .i64 k, .int .i64 n, .string s, .slice none 0 0, .slice none 0 0]) ∧ Below w.heap.size w w'
theorem rint_v (n : Int) (w : World) : Calls Tryz.prog 36 #[.int .i64 n] w (RootTold 4 n ⟨#[]⟩ w) := by
  go_enter Tryz.func36, Tryz.ntmps36
  go_wp2_with fail
  exact ret_cell5 rfl rfl (Box5.new w _ _ _ _ _).load rfl ⟨rfl, (Below.refl _ _).alloc (Nat.le_refl _) _⟩
theorem rbytes_v (s : ByteArray) (w : World) : Calls Tryz.prog 88 #[.string s] w (RootTold 6 0 s w) := by
  go_enter Tryz.func88, Tryz.ntmps88
  go_wp2_with fail
  exact ret_cell5 rfl rfl (Box5.new w _ _ _ _ _).load rfl ⟨rfl, (Below.refl _ _).alloc (Nat.le_refl _) _⟩
theorem rbool_v (w : World) : Calls Tryz.prog 90 #[.bool false] w (RootTold 5 0 ⟨#[]⟩ w) := by
  go_enter Tryz.func90, Tryz.ntmps90
  go_wp2_with fail
  exact ret_cell5 rfl rfl ((Box5.new w _ _ _ _ _).alloc _).load rfl ⟨rfl, (((Below.refl _ _).alloc (Nat.le_refl _) _).alloc (by simp) _)⟩
theorem rcopies_nil (w : World) : Calls Tryz.prog 82 #[.slice none 0 0] w fun e w' => e = .returned (.slice none 0 0) ∧ Below w.heap.size w w' := by
  go_enter Tryz.func82, Tryz.ntmps82
  go_wp2_with fail
  refine wp_loop_rounds 1 ?_
  rw [rounds_succ]
  go_wp2_with fail
  go_ret
  exact ⟨rfl, Below.refl _ _⟩
theorem rlist_v (w : World) : Calls Tryz.prog 87 #[.slice none 0 0] w (RootTold 3 0 ⟨#[]⟩ w) := by
  go_enter Tryz.func87, Tryz.ntmps87
  go_wp2_with fail
  refine (rcopies_nil _).mono ?_
  rintro e w2 ⟨rfl, hb2⟩
  simp only [World.size_alloc] at hb2
  have hz2 := hb2.size
  simp only [World.size_alloc] at hz2
  have hx2 : Box5 w2 w.heap.size (.int .i64 0) (.int .i64 0) (.string ⟨#[]⟩) (.slice none 0 0) (.slice none 0 0) := (Box5.new w _ _ _ _ _).same (hb2.block _ (by omega))
  have HX2 := Lib.hid hx2; have HB2 := Lib.hid hb2
  obtain ⟨s0, s1, s2, s3, s4⟩ := hx2.cells
  have s5 := hx2.frozen
  clear hx2 hb2
  go_wp2_with fail
  have hfin := ((((HX2.out.set0 (.int .i64 3)).set1 (.int .i64 0)).set2 (.string ⟨#[]⟩)).set3 (.slice none 0 0)).set4 (.slice none 0 0)
  clear s0 s1 s2 s3 s4 s5
  have le0 : w.heap.size ≤ w.heap.size := Nat.le_refl _
  exact ret_cell5 rfl rfl hfin.load rfl ⟨rfl, (((((((Below.refl w.heap.size w).alloc le0 _).trans (HB2.out.mono (by omega))).setCell (by exact le0) _).setCell (by exact le0) _).setCell (by exact le0) _).setCell (by exact le0) _).setCell (by exact le0) _⟩

/-- What Least asks of the type itself: what is right but for its kids has it. -/
structure LeastOk (t : T) : Prop where
  kind : 1 ≤ t.kind ∧ t.kind ≤ 7
  of0 : t.kind ≠ 2 → t.kind ≠ 3 → t.of = []
  of1 : t.kind = 2 ∨ t.kind = 3 → ∃ x, t.of = [x]
  fs : t.kind ≠ 1 → t.fields = []
  lo : t.kind = 2 ∨ t.kind = 3 ∨ t.kind = 6 → 0 ≤ t.lo
  lo6 : t.kind = 6 → t.lo ≤ 256
  ns : t.kind = 7 → 0 < t.names.length
theorem leastOk_of {t : T} (h : soundT t = true) : LeastOk t := by
  obtain ⟨k, lo, hi, ns, fs, of⟩ := t
  simp only [soundT, T.kind, T.lo, T.hi, T.names, T.fields, T.of, unrB, namedB, fieldedB] at h
  have h7 : k = 1 ∨ k = 2 ∨ k = 3 ∨ k = 4 ∨ k = 5 ∨ k = 6 ∨ k = 7 := by
    by_cases h1 : k = 1; · omega
    by_cases h2 : k = 2; · omega
    by_cases h3 : k = 3; · omega
    by_cases h4 : k = 4; · omega
    by_cases h5 : k = 5; · omega
    by_cases h6 : k = 6; · omega
    by_cases h7 : k = 7; · omega
    simp [h1, h2, h3, h4, h5, h6, h7] at h
  refine ⟨?_, ?_, ?_, ?_, ?_, ?_, ?_⟩ <;> simp only [T.kind, T.lo, T.names, T.fields, T.of] <;>
    rcases h7 with rfl | rfl | rfl | rfl | rfl | rfl | rfl <;> simp at h ⊢ <;> (try simp only [decide_eq_true_eq] at h) <;>
    first | exact h.2.2.1 | exact h.2.2.2 | exact h.1 | exact List.length_eq_one_iff.1 h.2.2.2.2 | exact h.2.2.2.1 | exact h.2.2.2.2.2 | exact h.2.2.2.2.1 | exact of_decide_eq_true h.2.2.1 | exact List.length_eq_one_iff.1 (of_decide_eq_true h.2.2.2.2) | exact of_decide_eq_true h.2.2.2.1 | (have h1 := of_decide_eq_true h.2.2.2.1; have h2 := of_decide_eq_true h.2.2.2.2.1; omega) | omega

theorem aStr_eq (n : Nat) : (⟨(Lib.repeatL (⟨#[97]⟩ : ByteArray).data.toList n).toArray⟩ : ByteArray) = aStr n := by
  unfold aStr
  congr 2
  induction n with
  | zero => rfl
  | succ n ih => simp only [Lib.repeatL, ih, List.replicate_succ]; rfl
set_option maxHeartbeats 4000000 in
set_option maxRecDepth 100000 in
theorem root_any {t : T} {v : Value} {w : World} {B : Nat} (hok : LeastOk t) (hB : B ≤ w.heap.size) (ht : TypeV w B t v) :
    Calls Tryz.prog 55 #[v] w (RootTold (leastKind t.kind) (leastNum t.kind t.lo t.hi) (leastStr t.kind t.lo t.names) w) := by
  obtain ⟨v0, v1, v2, v3, v4, v5, rfl, hd⟩ := ht
  have hns := hd.names_
  obtain ⟨A3, c3, A4, c4, A5, c5, rfl, rfl, rfl, rfl, rfl, rfl⟩ := hd.forms
  clear hd
  obtain ⟨k, lo, hi, ns, fs, of⟩ := t
  simp only [T.kind, T.lo, T.hi, T.names, T.fields, T.of] at *
  obtain ⟨hk, _, _, _, hlo, hlo6, hn⟩ := hok
  simp only [T.kind, T.lo, T.names] at hk hlo hlo6 hn
  have h7 : k = 1 ∨ k = 2 ∨ k = 3 ∨ k = 4 ∨ k = 5 ∨ k = 6 ∨ k = 7 := by omega
  have HN := Lib.hid hns; have HLO := Lib.hid hlo; have HLO6 := Lib.hid hlo6; have HNL := Lib.hid hn
  clear hns hlo hlo6 hn hk
  have le0 : w.heap.size ≤ w.heap.size + 1 := by omega
  have fin : Hid (∀ (k n : Int) (s : ByteArray) (w2 : World), Below (w.heap.size + 1 + 1) ((w.alloc (.cells #[.int .i64 k, .int .i64 lo, .int .i64 hi, .slice A3 ns.length c3, .slice A4 fs.length c4, .slice A5 of.length c5] 26)).alloc (.cells #[.int .i64 0, .int .i64 0, .string ⟨#[]⟩, .slice none 0 0, .slice none 0 0] 29)) w2 → Box5 w2 (w.heap.size + 1) (.int .i64 0) (.int .i64 0) (.string ⟨#[]⟩) (.slice none 0 0) (.slice none 0 0) ∧ Below w.heap.size w w2) := by
    refine Lib.hid ?_
    intro k n s w2 hb
    refine ⟨(Box5.new' (by simp) _ _ _ _ _).same (hb.block _ (by omega)), ?_⟩
    exact (((Below.refl _ _).alloc (Nat.le_refl _) _).alloc (by simp) _).trans (hb.mono (by omega))
  rcases h7 with rfl | rfl | rfl | rfl | rfl | rfl | rfl
  · go_enter Tryz.func55, Tryz.ntmps55
    go_wp2_with fail
    exact ret_cell5 rfl rfl (Box5.new' (w := w.alloc (.cells #[.int .i64 1, .int .i64 lo, .int .i64 hi, .slice A3 ns.length c3, .slice A4 fs.length c4, .slice A5 of.length c5] 26)) (by simp) _ _ _ _ _).load rfl ⟨rfl, ((Below.refl _ _).alloc (Nat.le_refl _) _).alloc (by simp) _⟩
  · go_enter Tryz.func55, Tryz.ntmps55
    go_wp2_with fail
    exact ret_cell5 rfl rfl (Box5.new' (w := w.alloc (.cells #[.int .i64 2, .int .i64 lo, .int .i64 hi, .slice A3 ns.length c3, .slice A4 fs.length c4, .slice A5 of.length c5] 26)) (by simp) _ _ _ _ _).load rfl ⟨rfl, ((Below.refl _ _).alloc (Nat.le_refl _) _).alloc (by simp) _⟩
  · go_enter Tryz.func55, Tryz.ntmps55
    go_wp2_with fail
    refine (rlist_v _).mono ?_
    rintro e w2 ⟨rfl, hb2⟩
    have hz2 := hb2.size
    simp only [World.size_alloc] at hb2 hz2
    obtain ⟨hx, hb⟩ := fin.out 3 0 ⟨#[]⟩ w2 hb2
    have HX := Lib.hid hx; have HB := Lib.hid hb
    obtain ⟨s0, s1, s2, s3, s4⟩ := hx.cells
    have s5 := hx.frozen
    clear hx hb hb2
    go_wp2_with fail
    have hfin := ((((HX.out.set0 (.int .i64 3)).set1 (.int .i64 0)).set2 (.string ⟨#[]⟩)).set3 (.slice none 0 0)).set4 (.slice none 0 0)
    clear s0 s1 s2 s3 s4 s5
    exact ret_cell5 rfl rfl hfin.load rfl ⟨rfl, (((((HB.out).setCell (by exact le0) _).setCell (by exact le0) _).setCell (by exact le0) _).setCell (by exact le0) _).setCell (by exact le0) _⟩
  · go_enter Tryz.func55, Tryz.ntmps55
    go_wp2_with fail
    refine (rint_v _ _).mono ?_
    rintro e w2 ⟨rfl, hb2⟩
    have hz2 := hb2.size
    simp only [World.size_alloc] at hb2 hz2
    obtain ⟨hx, hb⟩ := fin.out 4 0 ⟨#[]⟩ w2 hb2
    have HX := Lib.hid hx; have HB := Lib.hid hb
    obtain ⟨s0, s1, s2, s3, s4⟩ := hx.cells
    have s5 := hx.frozen
    clear hx hb hb2
    go_wp2_with fail
    have hfin := ((((HX.out.set0 (.int .i64 4)).set1 (.int .i64 (max lo (min hi 0)))).set2 (.string ⟨#[]⟩)).set3 (.slice none 0 0)).set4 (.slice none 0 0)
    clear s0 s1 s2 s3 s4 s5
    exact ret_cell5 rfl rfl hfin.load rfl ⟨rfl, (((((HB.out).setCell (by exact le0) _).setCell (by exact le0) _).setCell (by exact le0) _).setCell (by exact le0) _).setCell (by exact le0) _⟩
  · go_enter Tryz.func55, Tryz.ntmps55
    go_wp2_with fail
    refine (rbool_v _).mono ?_
    rintro e w2 ⟨rfl, hb2⟩
    have hz2 := hb2.size
    simp only [World.size_alloc] at hb2 hz2
    obtain ⟨hx, hb⟩ := fin.out 5 0 ⟨#[]⟩ w2 hb2
    have HX := Lib.hid hx; have HB := Lib.hid hb
    obtain ⟨s0, s1, s2, s3, s4⟩ := hx.cells
    have s5 := hx.frozen
    clear hx hb hb2
    go_wp2_with fail
    have hfin := ((((HX.out.set0 (.int .i64 5)).set1 (.int .i64 0)).set2 (.string ⟨#[]⟩)).set3 (.slice none 0 0)).set4 (.slice none 0 0)
    clear s0 s1 s2 s3 s4 s5
    exact ret_cell5 rfl rfl hfin.load rfl ⟨rfl, (((((HB.out).setCell (by exact le0) _).setCell (by exact le0) _).setCell (by exact le0) _).setCell (by exact le0) _).setCell (by exact le0) _⟩
  · obtain ⟨n, rfl⟩ : ∃ n : Nat, lo = (n : Int) := ⟨lo.toNat, by have := HLO.out (by omega); omega⟩
    have hn : n ≤ 256 := by have := HLO6.out rfl; omega
    have EA := Lib.hid (aStr_eq n)
    go_enter Tryz.func55, Tryz.ntmps55
    go_wp2_with fail
    refine (Tryz.strings_Repeat ⟨#[97]⟩ n _ (by omega) (by show 1 * n ≤ _; omega)).mono ?_
    rintro e w1 ⟨rfl, hb1⟩
    rw [EA.out]
    have HB1 := Lib.hid hb1
    clear hb1
    go_wp2_with fail
    refine (rbytes_v _ _).mono ?_
    rintro e w2 ⟨rfl, hb2⟩
    have hb2 := HB1.out.trans (hb2.mono HB1.out.size)
    have hz2 := hb2.size
    simp only [World.size_alloc] at hb2 hz2
    obtain ⟨hx, hb⟩ := fin.out 6 0 ⟨#[]⟩ w2 hb2
    have HX := Lib.hid hx; have HB := Lib.hid hb
    obtain ⟨s0, s1, s2, s3, s4⟩ := hx.cells
    have s5 := hx.frozen
    clear hx hb hb2
    go_wp2_with fail
    have hfin := ((((HX.out.set0 (.int .i64 6)).set1 (.int .i64 0)).set2 (.string (aStr n))).set3 (.slice none 0 0)).set4 (.slice none 0 0)
    clear s0 s1 s2 s3 s4 s5
    exact ret_cell5 rfl rfl hfin.load rfl ⟨rfl, (((((HB.out).setCell (by exact le0) _).setCell (by exact le0) _).setCell (by exact le0) _).setCell (by exact le0) _).setCell (by exact le0) _⟩
  · obtain ⟨S, hS⟩ : ∃ S, S = ns.headD ⟨#[]⟩ := ⟨_, rfl⟩
    have HS := Lib.hid hS; clear hS
    obtain ⟨h1, h2⟩ : ∃ b off, A3 = some ⟨b, off, none⟩ ∧ b < B ∧ w.cell? ⟨b, off, none⟩ = some (.string S) := by
      have hl := HNL.out rfl
      obtain ⟨A', c', e, _, h⟩ := HN.out
      injection e with e _ _
      subst e
      obtain ⟨b, off, rfl, hb, hc⟩ := h hl
      refine ⟨b, off, rfl, hb, ?_⟩
      have := hc 0 hl
      obtain ⟨x, r, rfl⟩ := List.exists_cons_of_length_pos hl
      rw [HS.out]
      exact this
    obtain ⟨off, rfl, hb, hc⟩ := h2
    have hl := HNL.out rfl
    have hli : (0 : Int) < (ns.length : Int) := by omega
    have hbl : h1 < w.heap.size := by omega
    go_enter Tryz.func55, Tryz.ntmps55
    go_wp2_with fail
    refine (rbytes_v _ _).mono ?_
    rintro e w2 ⟨rfl, hb2⟩
    have hz2 := hb2.size
    simp only [World.size_alloc] at hb2 hz2
    obtain ⟨hx, hb⟩ := fin.out 7 0 ⟨#[]⟩ w2 hb2
    have HX := Lib.hid hx; have HB := Lib.hid hb
    obtain ⟨s0, s1, s2, s3, s4⟩ := hx.cells
    have s5 := hx.frozen
    clear hx hb hb2
    go_wp2_with fail
    have hfin := ((((HX.out.set0 (.int .i64 6)).set1 (.int .i64 0)).set2 (.string S)).set3 (.slice none 0 0)).set4 (.slice none 0 0)
    clear s0 s1 s2 s3 s4 s5
    exact ret_cell5 rfl rfl hfin.load rfl ⟨by rw [HS.out]; rfl, (((((HB.out).setCell (by exact le0) _).setCell (by exact le0) _).setCell (by exact le0) _).setCell (by exact le0) _).setCell (by exact le0) _⟩
end Go.Proofs.YteecdmceleanjaaGreatDoor

namespace Go.Proofs.YteecdmceleanjaaGreatDoor
open Go.RowKit

theorem allF_at : ∀ {l : List F} {i : Nat}, allF l = true → ∀ (h : i < l.length), allT (l[i]).type = true
  | [], _, _, h => by simp at h
  | f :: r, 0, h, _ => by simp only [allF, Bool.and_eq_true] at h; rw [← allF1_eq]; exact h.1
  | f :: r, i + 1, h, hi => by simp only [allF, Bool.and_eq_true] at h; exact allF_at h.2 (by simpa using hi)
/-- The closure's own variable. -/
def LeastFn (c : Nat) : Value := .func (.func 54) #[] #[.pointer (some ⟨c, 0, none⟩)]
theorem own_leaf {w : World} {W0 : Nat} (kind num : Int) (str : ByteArray) : OwnIn w W0 (.mk kind num str [] []) (.int .i64 kind) (.int .i64 num) (.string str) (.slice none 0 0) (.slice none 0 0) [] := by
  simp only [OwnIn]
  exact ⟨trivial, trivial, trivial, World.ownsRow_nil _ _ _ _, [], [], World.ownsRow_nil _ _ _ _, by simp [OwnKids], by simp [blk, Value.ownBlock]⟩
set_option maxHeartbeats 4000000 in
set_option maxRecDepth 100000 in
theorem least_leaf {t : T} {v : Value} {w : World} {B c : Nat} (hk : 4 ≤ t.kind) (hok : LeastOk t) (hB : B ≤ w.heap.size) (ht : TypeV w B t v) :
    Calls Tryz.prog 54 #[v, .pointer (some ⟨c, 0, none⟩)] w (MadeDoc w.heap.size w t.least) := by
  have hf0 := hok.fs (by omega)
  have ho0 := hok.of0 (by omega) (by omega)
  have hl : t.least = .mk (leastKind t.kind) (leastNum t.kind t.lo t.hi) (leastStr t.kind t.lo t.names) [] [] := by
    rw [least_eq, hf0, ho0]
    simp [keysF, keysO, leastF, leastO]
  have HL := Lib.hid hl; have HOK := Lib.hid hok
  have HV := Lib.hid ht
  obtain ⟨v0, v1, v2, v3, v4, v5, rfl, hd⟩ := ht
  obtain ⟨A3, c3, A4, c4, A5, c5, rfl, rfl, rfl, rfl, rfl, rfl⟩ := hd.forms
  clear hd hl hok
  rw [hf0, ho0]
  rw [hf0, ho0] at HV
  clear hf0 ho0
  go_enter Tryz.func54, Tryz.ntmps54
  go_wp2_with fail
  refine (root_any HOK.out (B := B) (by simp; omega) (HV.out.keep (Nat.le_refl _) fun p hp => (World.cell?_alloc_lt (w.alloc _) _ p (by simp; omega)).trans (World.cell?_alloc_lt w _ p (by omega)))).mono ?_
  rintro e w1 ⟨rfl, hb1⟩
  generalize leastKind t.kind = kd at *
  generalize leastNum t.kind t.lo t.hi = nm at *
  generalize leastStr t.kind t.lo t.names = st at *
  have hz1 := hb1.size
  simp only [World.size_alloc] at hz1
  have HT : Hid (Box6 w1 w.heap.size (.int .i64 t.kind) (.int .i64 t.lo) (.int .i64 t.hi) (.slice A3 t.names.length c3) (.slice A4 0 c4) (.slice A5 0 c5)) := ((Box6.new w _ _ _ _ _ _).alloc _).same (hb1.block _ (by simp; omega))
  have HR : Hid (Box5 w1 (w.heap.size + 1) (.int .i64 0) (.int .i64 0) (.string ⟨#[]⟩) (.slice none 0 0) (.slice none 0 0)) := (Box5.new' (w := w.alloc (.cells #[.int .i64 t.kind, .int .i64 t.lo, .int .i64 t.hi, .slice A3 t.names.length c3, .slice A4 0 c4, .slice A5 0 c5] 26)) (by simp) _ _ _ _ _).same (hb1.block _ (by simp))
  have HB : Hid (Below w.heap.size w w1) := (((Below.refl _ _).alloc (Nat.le_refl _) _).alloc (by simp) _).trans (hb1.mono (by simp; omega))
  clear hb1
  obtain ⟨t0, t1, t2, t3, t4, t5⟩ := HT.out.cells
  have htl := HT.out.lt; have hrl := HR.out.lt
  go_wp2_with fail
  obtain ⟨w2, hw2⟩ : ∃ w2, w2 = w1.alloc (.cells #[.int .i64 kd, .int .i64 nm, .string st, .slice none 0 0, .slice none 0 0] 29) := ⟨_, rfl⟩
  have HT2 : Hid (Box6 w2 w.heap.size (.int .i64 t.kind) (.int .i64 t.lo) (.int .i64 t.hi) (.slice A3 t.names.length c3) (.slice A4 0 c4) (.slice A5 0 c5)) := by rw [hw2]; exact HT.out.alloc _
  have HR2 : Hid (Box5 w2 (w.heap.size + 1) (.int .i64 0) (.int .i64 0) (.string ⟨#[]⟩) (.slice none 0 0) (.slice none 0 0)) := by rw [hw2]; exact HR.out.alloc _
  have HD2 : Hid (Box5 w2 w1.heap.size (.int .i64 kd) (.int .i64 nm) (.string st) (.slice none 0 0) (.slice none 0 0)) := by rw [hw2]; exact Box5.new w1 _ _ _ _ _
  have HB2 : Hid (Below w.heap.size w w2) := by rw [hw2]; exact HB.out.alloc HB.out.size _
  rw [← hw2]
  clear hw2 t0 t1 t2 t3 t4 t5
  obtain ⟨t0, t1, t2, t3, t4, t5⟩ := HT2.out.cells
  obtain ⟨r0, r1, r2, r3, r4⟩ := HR2.out.cells
  obtain ⟨d0, d1, d2, d3, d4⟩ := HD2.out.cells
  have r5 := HR2.out.frozen
  refine wp_loop_rounds 1 ?_
  rw [rounds_succ]
  go_wp2_with fail
  refine wp_loop_rounds 1 ?_
  rw [rounds_succ]
  go_wp2_with fail
  have hfin := ((((HR2.out.set0 (.int .i64 kd)).set1 (.int .i64 nm)).set2 (.string st)).set3 (.slice none 0 0)).set4 (.slice none 0 0)
  clear r0 r1 r2 r3 r4 r5
  have le0 : w.heap.size ≤ w.heap.size + 1 := by omega
  refine ret_cell5 rfl rfl hfin.load rfl ⟨_, _, _, _, _, [], rfl, ?_, by simp, ((((HB2.out.setCell (by exact le0) _).setCell (by exact le0) _).setCell (by exact le0) _).setCell (by exact le0) _).setCell (by exact le0) _⟩
  rw [HL.out]
  exact own_leaf _ _ _
end Go.Proofs.YteecdmceleanjaaGreatDoor
namespace Go.Proofs.YteecdmceleanjaaGreatDoor
open Go.RowKit

theorem aStr_succ (n : Nat) : aStr (n + 1) = aStr n ++ ⟨#[97]⟩ := by
  unfold aStr
  rw [List.replicate_succ']
  apply ByteArray.ext
  simp
  rw [← List.toArray_replicate, List.push_toArray]
theorem aStr_size (n : Nat) : (aStr n).size = n := by simp [aStr, ByteArray.size]
set_option maxHeartbeats 4000000 in
set_option maxRecDepth 100000 in
theorem rleast_leaf {t : T} {v : Value} {w : World} {B : Nat} (hk : 4 ≤ t.kind) (hok : LeastOk t) (hB : B ≤ w.heap.size) (ht : TypeV w B t v) :
    Calls Tryz.prog 85 #[v] w (MadeDoc w.heap.size w t.least) := by
  have hf0 := hok.fs (by omega)
  have ho0 := hok.of0 (by omega) (by omega)
  have hl : t.least = .mk (leastKind t.kind) (leastNum t.kind t.lo t.hi) (leastStr t.kind t.lo t.names) [] [] := by
    rw [least_eq, hf0, ho0]
    simp [keysF, keysO, leastF, leastO]
  have HL := Lib.hid hl
  obtain ⟨v0, v1, v2, v3, v4, v5, rfl, hd⟩ := ht
  have hns := hd.names_
  obtain ⟨A3, c3, A4, c4, A5, c5, rfl, rfl, rfl, rfl, rfl, rfl⟩ := hd.forms
  clear hd hl hf0 ho0
  obtain ⟨k, lo, hi, ns, fs, of⟩ := t
  simp only [T.kind, T.lo, T.hi, T.names, T.fields, T.of] at *
  obtain ⟨hk2, _, _, _, hlo, hlo6, hn⟩ := hok
  simp only [T.kind, T.lo, T.names] at hk2 hlo hlo6 hn
  have h7 : k = 4 ∨ k = 5 ∨ k = 6 ∨ k = 7 := by omega
  have HN := Lib.hid hns; have HLO := Lib.hid hlo; have HLO6 := Lib.hid hlo6; have HNL := Lib.hid hn
  clear hns hlo hlo6 hn hk hk2
  have le0 : w.heap.size ≤ w.heap.size + 1 := by omega
  rcases h7 with rfl | rfl | rfl | rfl
  · go_enter Tryz.func85, Tryz.ntmps85
    go_wp2_with fail
    refine ret_cell5 rfl rfl (Box5.new' (w := w.alloc (.cells #[.int .i64 4, .int .i64 lo, .int .i64 hi, .slice A3 ns.length c3, .slice A4 fs.length c4, .slice A5 of.length c5] 26)) (by simp) _ _ _ _ _).load rfl ?_
    rw [HL.out]
    exact ⟨_, _, _, _, _, [], rfl, own_leaf _ _ _, by simp, ((Below.refl _ _).alloc (Nat.le_refl _) _).alloc (by simp) _⟩
  · go_enter Tryz.func85, Tryz.ntmps85
    go_wp2_with fail
    refine ret_cell5 rfl rfl (Box5.new' (w := w.alloc (.cells #[.int .i64 5, .int .i64 lo, .int .i64 hi, .slice A3 ns.length c3, .slice A4 fs.length c4, .slice A5 of.length c5] 26)) (by simp) _ _ _ _ _).load rfl ?_
    rw [HL.out]
    exact ⟨_, _, _, _, _, [], rfl, own_leaf _ _ _, by simp, ((Below.refl _ _).alloc (Nat.le_refl _) _).alloc (by simp) _⟩
  · obtain ⟨n, rfl⟩ : ∃ n : Nat, lo = (n : Int) := ⟨lo.toNat, by have := HLO.out (by omega); omega⟩
    have hn : n ≤ 256 := by have := HLO6.out rfl; omega
    go_enter Tryz.func85, Tryz.ntmps85
    go_wp2_with fail
    obtain ⟨w2, hw2⟩ : ∃ w2, w2 = (w.alloc (.cells #[.int .i64 6, .int .i64 n, .int .i64 hi, .slice A3 ns.length c3, .slice A4 fs.length c4, .slice A5 of.length c5] 26)).alloc (.cells #[.int .i64 0, .int .i64 0, .string ⟨#[]⟩, .slice none 0 0, .slice none 0 0] 29) := ⟨_, rfl⟩
    have HT2 : Hid (Box6 w2 w.heap.size (.int .i64 6) (.int .i64 n) (.int .i64 hi) (.slice A3 ns.length c3) (.slice A4 fs.length c4) (.slice A5 of.length c5)) := by rw [hw2]; exact (Box6.new w _ _ _ _ _ _).alloc _
    have HR2 : Hid (Box5 w2 (w.heap.size + 1) (.int .i64 0) (.int .i64 0) (.string ⟨#[]⟩) (.slice none 0 0) (.slice none 0 0)) := by rw [hw2]; exact Box5.new' (by simp) _ _ _ _ _
    have HB2 : Hid (Below w.heap.size w w2) := by rw [hw2]; exact ((Below.refl _ _).alloc (Nat.le_refl _) _).alloc (by simp) _
    have hz20 : w.heap.size + 2 ≤ w2.heap.size := by rw [hw2]; simp
    rw [← hw2]
    clear hw2
    go_loopw [7, 8] (fun s i wr => ∃ k : Nat, k ≤ n ∧ s = .string (aStr k) ∧ i = .int .i64 k ∧ wr = w2) (fun _ i _ => n - (intOf i).toNat)
    case atStart => exact ⟨0, Nat.zero_le _, rfl, rfl, rfl⟩
    case round =>
      obtain ⟨k, hk0, rfl, rfl, rfl⟩ := hrel
      obtain ⟨t0, t1, t2, t3, t4, t5⟩ := HT2.out.cells
      by_cases hlt : k < n
      · have h1 : (k : Int) < (n : Int) := by omega
        have h2 : (k : Int) < 256 := by omega
        have HS := Lib.hid (aStr_succ k)
        have hsz : (aStr k).size = k := aStr_size k
        generalize aStr k = S at *
        go_wp2_with fail
        go_roundw
        case rel => exact ⟨k + 1, by omega, by rw [HS.out], by go_num, by first | rfl | trivial⟩
        case measure => simp [intOf]; omega
      · have hkn : k = n := by omega
        subst hkn
        obtain ⟨r0, r1, r2, r3, r4⟩ := HR2.out.cells
        have r5 := HR2.out.frozen
        go_wp2_with fail
        have hfin := ((((HR2.out.set0 (.int .i64 6)).set1 (.int .i64 0)).set2 (.string (aStr k))).set3 (.slice none 0 0)).set4 (.slice none 0 0)
        clear r0 r1 r2 r3 r4 r5
        refine ret_cell5 rfl rfl hfin.load rfl ?_
        rw [HL.out]
        exact ⟨_, _, _, _, _, [], rfl, own_leaf _ _ _, by simp, ((((HB2.out.setCell (by exact le0) _).setCell (by exact le0) _).setCell (by exact le0) _).setCell (by exact le0) _).setCell (by exact le0) _⟩
  · obtain ⟨S, hS⟩ : ∃ S, S = ns.headD ⟨#[]⟩ := ⟨_, rfl⟩
    have HS := Lib.hid hS; clear hS
    obtain ⟨h1, h2⟩ : ∃ b off, A3 = some ⟨b, off, none⟩ ∧ b < B ∧ w.cell? ⟨b, off, none⟩ = some (.string S) := by
      have hl := HNL.out rfl
      obtain ⟨A', c', e, _, h⟩ := HN.out
      injection e with e _ _
      subst e
      obtain ⟨b, off, rfl, hb, hc⟩ := h hl
      refine ⟨b, off, rfl, hb, ?_⟩
      have := hc 0 hl
      obtain ⟨x, r, rfl⟩ := List.exists_cons_of_length_pos hl
      rw [HS.out]
      exact this
    obtain ⟨off, rfl, hb, hc⟩ := h2
    have hl := HNL.out rfl
    have hli : (0 : Int) < (ns.length : Int) := by omega
    have hbl : h1 < w.heap.size := by omega
    go_enter Tryz.func85, Tryz.ntmps85
    go_wp2_with fail
    refine ret_cell5 rfl rfl (Box5.new' (w := w.alloc (.cells #[.int .i64 7, .int .i64 lo, .int .i64 hi, .slice (some ⟨h1, off, none⟩) ns.length c3, .slice A4 fs.length c4, .slice A5 of.length c5] 26)) (by simp) _ _ _ _ _).load rfl ?_
    rw [HL.out]
    refine ⟨_, _, _, _, _, [], rfl, ?_, by simp, ((Below.refl _ _).alloc (Nat.le_refl _) _).alloc (by simp) _⟩
    have e : leastStr 7 lo ns = S := by rw [HS.out]; rfl
    rw [e]
    exact own_leaf _ _ _
end Go.Proofs.YteecdmceleanjaaGreatDoor

namespace Go.Proofs.YteecdmceleanjaaGreatDoor
open Go.RowKit

/-- What the document's Least tells of the kids. -/
def RLeastsTo (m : Nat) : Prop := ∀ (t : T) (v : Value) (w : World) (B : Nat), t.depth ≤ m → allT t = true → t.Fit → B ≤ w.heap.size → TypeV w B t v →
    Calls Tryz.prog 85 #[v] w (MadeDoc w.heap.size w t.least)
set_option maxHeartbeats 8000000 in
set_option maxRecDepth 100000 in
theorem rleast_fields {t : T} {v : Value} {w : World} {B m : Nat} (hk : t.kind = 1) (hok : LeastOk t) (hm : t.depth ≤ m + 1) (hall : allT t = true) (hf : t.Fit) (hB : B ≤ w.heap.size) (ht : TypeV w B t v) (ih : RLeastsTo m) :
    Calls Tryz.prog 85 #[v] w (MadeDoc w.heap.size w t.least) := by
  have ho0 := hok.of0 (by omega) (by omega)
  have hlen : t.fields.length ≤ 10000 := hf.parts.2.1
  have hl : t.least = .mk 1 0 ⟨#[]⟩ (keysF t.fields) (leastF t.fields) := by
    rw [least_eq, ho0, hk]
    simp [keysO, leastO, leastKind, leastNum, leastStr]
  have HL := Lib.hid hl; have HALL := Lib.hid hall; have HF := Lib.hid hf; have IH := Lib.hid ih
  obtain ⟨v0, v1, v2, v3, v4, v5, rfl, hd⟩ := ht
  have HFS := Lib.hid hd.fields_
  obtain ⟨A3, c3, A4, c4, A5, c5, rfl, rfl, rfl, rfl, rfl, rfl⟩ := hd.forms
  rw [hk]
  clear hd hl hok hall hf ih hk ho0
  go_enter Tryz.func85, Tryz.ntmps85
  go_wp2_with fail
  obtain ⟨w2, hw2⟩ : ∃ w2, w2 = ((w.alloc (.cells #[.int .i64 1, .int .i64 t.lo, .int .i64 t.hi, .slice A3 t.names.length c3, .slice A4 t.fields.length c4, .slice A5 t.of.length c5] 26)).alloc (.cells #[.int .i64 0, .int .i64 0, .string ⟨#[]⟩, .slice none 0 0, .slice none 0 0] 29)).alloc (.cells #[.int .i64 1, .int .i64 0, .string ⟨#[]⟩, .slice none 0 0, .slice none 0 0] 29) := ⟨_, rfl⟩
  have HT2 : Hid (Box6 w2 w.heap.size (.int .i64 1) (.int .i64 t.lo) (.int .i64 t.hi) (.slice A3 t.names.length c3) (.slice A4 t.fields.length c4) (.slice A5 t.of.length c5)) := by rw [hw2]; exact ((Box6.new w _ _ _ _ _ _).alloc _).alloc _
  have HR2 : Hid (Box5 w2 (w.heap.size + 1) (.int .i64 0) (.int .i64 0) (.string ⟨#[]⟩) (.slice none 0 0) (.slice none 0 0)) := by rw [hw2]; exact (Box5.new' (by simp) _ _ _ _ _).alloc _
  have HD2 : Hid (Box5 w2 (w.heap.size + 2) (.int .i64 1) (.int .i64 0) (.string ⟨#[]⟩) (.slice none 0 0) (.slice none 0 0)) := by rw [hw2]; exact Box5.new' (by simp) _ _ _ _ _
  have HB2 : Hid (Below w.heap.size w w2) := by rw [hw2]; exact (((Below.refl _ _).alloc (Nat.le_refl _) _).alloc (by simp) _).alloc (by simp; omega) _
  have hz20 : w.heap.size + 3 ≤ w2.heap.size := by rw [hw2]; simp
  rw [← hw2]
  clear hw2
  go_loopw [4] (fun i wr => ∃ (k : Nat) (v3 v4 : Value) (cs : List Value) (F : List Nat), k ≤ t.fields.length ∧ i = .int .i64 k ∧ DocSt w2 wr (w.heap.size + 2) 1 0 ⟨#[]⟩ (keysF (t.fields.take k)) (leastF (t.fields.take k)) v3 v4 cs F) (fun i _ => t.fields.length - (intOf i).toNat)
  case atStart => exact ⟨0, _, _, [], [], Nat.zero_le _, rfl, HD2.out, World.ownsRow_nil _ _ _ _, World.ownsRow_nil _ _ _ _, by simp [OwnKids, leastF], by simp [blk, Value.ownBlock], Turned.of_below (Below.refl _ _) _ _⟩
  case round =>
    obtain ⟨k, v3, v4, cs, F, hk0, rfl, hst⟩ := hrel
    have HST := Lib.hid hst
    have hzr := hst.t.size
    clear hst
    have HTR := Lib.hid (HT2.out.same (HST.out.t.block _ (by omega) (by simp) (by omega)))
    obtain ⟨t0, t1, t2, t3, t4, t5⟩ := HTR.out.cells
    have htl : w.heap.size < wr.heap.size := by omega
    by_cases hlt : k < t.fields.length
    · obtain ⟨A4', c4', e4, _, hfi⟩ := HFS.out
      injection e4 with e4 _ e5
      subst e4; subst e5
      obtain ⟨b, off, rfl, hbB, hfi⟩ := hfi (by omega)
      obtain ⟨fn, fo, y0, y1, y2, y3, y4, y5, g0, g1, g2, g3, g4, g5, hti⟩ := hfi.at_ k hlt
      rw [Nat.zero_add] at fn fo g0 g1 g2 g3 g4 g5
      have keep : ∀ p : Addr, p.block < w.heap.size → wr.cell? p = w.cell? p := fun p hp => World.cell?_of_block (a := p) ((HST.out.t.block p.block (by omega) (by simp) (by omega)).trans (HB2.out.block p.block (by omega)))
      have fn := (keep ⟨b, _, none⟩ (by show b < _; omega)).trans fn
      have fo := (keep ⟨b, _, none⟩ (by show b < _; omega)).trans fo
      obtain ⟨X3, x3, X4, x4, X5, x5, rfl, rfl, rfl, rfl, rfl, rfl⟩ := hti.forms
      have HCE : Hid (_ ∧ _ ∧ _ ∧ _ ∧ _ ∧ _) := Lib.hid ⟨g0, g1, g2, g3, g4, g5⟩
      have HTI := Lib.hid hti
      clear hti hfi keep g0 g1 g2 g3 g4 g5
      obtain ⟨f, hfe⟩ : ∃ f, f = t.fields[k] := ⟨_, rfl⟩
      have hkt := keysF_take t.fields k hlt
      have hlt2 := leastF_take t.fields k hlt
      rw [← hfe] at fn fo HCE HTI hkt hlt2
      have hdep : f.type.depth ≤ m := by have := T.field_depth (t := t) hlt; rw [← hfe] at this; omega
      have HFE := Lib.hid hfe; have HKT := Lib.hid hkt; have HLT := Lib.hid hlt2
      clear hfe hkt hlt2
      have hik0 : (0 : Int) ≤ (k : Int) := by omega
      have hik : (k : Int) < (t.fields.length : Int) := by omega
      have hbr : b < wr.heap.size := by omega
      by_cases ho : f.opt = true
      · rw [ho] at fo
        have HO := Lib.hid ho; clear ho
        go_wp2_with fail
        go_roundw
        case rel => exact ⟨k + 1, v3, v4, cs, F, by omega, by go_num, by rw [HKT.out, HLT.out, HO.out]; simpa using HST.out⟩
        case measure => simp [intOf]; omega
      · have ho' : f.opt = false := by simpa using ho
        rw [ho'] at fo
        have HO := Lib.hid ho'; clear ho ho'
        go_upto_region 8 with fail
        go_cut [38] from 14 to 50 (fun _ wx => ∃ (x3 x4 : Value) (cs' : List Value) (F' : List Nat), DocSt w2 wx (w.heap.size + 2) 1 0 ⟨#[]⟩ (keysF (t.fields.take k) ++ [f.name]) (leastF (t.fields.take k)) x3 x4 cs' F')
        case first =>
          obtain ⟨q0, q1, q2, q3, q4⟩ := HST.out.bx.cells
          have q5 := HST.out.bx.frozen
          have hdl : w.heap.size + 2 < wr.heap.size := by omega
          have hpl : (keysF (t.fields.take k)).length ≤ 10000 := by have := keysF_len (t.fields.take k); have := List.length_take_le k t.fields; omega
          have ag : v3.ownBlock ≠ some (w.heap.size + 2) := fun h => by have := (HST.out.o3.lt _ h).1; omega
          obtain ⟨i0, hi, hz0, hz1', hz2⟩ := info_parts infoS
          have HI := Lib.hid hi; have HZ0 := Lib.hid hz0; have HZ1 := Lib.hid hz1'; have HZ2 := Lib.hid hz2
          clear hi hz0 hz1' hz2
          go_region_law (refine step_append_lies _ (by rfl) _ _ _ (by rfl) w2.heap.size 9 i0 (.string ByteArray.empty) 1 16 Tryz.underlying22 HI.out HZ0.out HZ1.out HZ2.out (by rfl) (by omega) v3 (keysF (t.fields.take k)).length _ (by rfl) ((HST.out.o3.alloc _).drew) ⟨wr.heap.size, 0, none⟩ 1 1 [.string f.name] (by rfl) (by rfl) (World.news_of_block (cs := #[.string f.name]) (t := 9) (fr := (0, 0)) (heap_alloc_new wr _)) (by simp [Value.oneCell']) (by omega) (by unfold maxLen; omega) (by omega) (by simp; omega) (wr.heap.size + 1) (by simp) ?_; intro g5 cap5 w5 hown5 hgrow5 hat5 hlt5; have mf5 : w5.frozen? ⟨w.heap.size + 2, 3, none⟩ = false := ((hgrow5.frozen_far ⟨w.heap.size + 2, 3, none⟩ (by simp; omega) (Ne.symm ag)).trans ((frozen_alloc_drew hdl _ 3).trans (q5 3))); have m45 := (hgrow5.cell_far ⟨w.heap.size + 2, 3, none⟩ (by simp; omega) (Ne.symm ag)).trans ((cell_alloc_drew hdl _ 3).trans q3))
          all_goals go_wp2_with fail
          all_goals go_meet
          all_goals exact ⟨_, _, _, _, HST.out.key (by omega) hown5 _ hgrow5 hat5⟩
        case rest =>
          obtain ⟨v3', v4', cs', F', hst6⟩ := hcut
          have HST6 := Lib.hid hst6
          have hz6 := hst6.t.size
          clear hst6 t0 t1 t2 t3 t4 t5 fn fo
          generalize wc = w6 at *
          go_upto_region 9 with fail
          have HTR6 := Lib.hid (HT2.out.same (HST6.out.t.block _ (by omega) (by simp) (by omega)))
          obtain ⟨t0, t1, t2, t3, t4, t5⟩ := HTR6.out.cells
          have hlow : ∀ p : Addr, p.block < w.heap.size → w6.cell? p = w.cell? p := fun p hp => World.cell?_of_block (a := p) ((HST6.out.t.block p.block (by omega) (by simp) (by omega)).trans (HB2.out.block p.block (by omega)))
          have HTI6 := Lib.hid (HTI.out.keep (w' := w6) (Nat.le_refl B) fun p hp => hlow p (by omega))
          obtain ⟨g0, g1, g2, g3, g4, g5⟩ := HCE.out
          rw [← hlow ⟨b, _, none⟩ (by show b < _; omega)] at g0 g1 g2 g3 g4 g5
          clear hlow
          have hbr6 : b < w6.heap.size := by omega
          have htl6 : w.heap.size < w6.heap.size := by omega
          obtain ⟨q0, q1, q2, q3, q4⟩ := HST6.out.bx.cells
          have q5 := HST6.out.bx.frozen
          have ag4 : v4'.ownBlock ≠ some (w.heap.size + 2) := fun h => by have := (HST6.out.o4.lt _ h).1; omega
          have hpd : (leastF (t.fields.take k)).length ≤ 10000 := by rw [leastF_len]; have := keysF_len (t.fields.take k); have := List.length_take_le k t.fields; omega
          obtain ⟨j0, hj, hy0, hy1, hy2⟩ := info_parts infoD
          have HJ := Lib.hid hj; have HJ0 := Lib.hid hy0; have HJ1 := Lib.hid hy1; have HJ2 := Lib.hid hy2
          clear hj hy0 hy1 hy2
          have HAT : Hid (allT f.type = true) := by
            have h := HALL.out
            rw [allT_eq, Bool.and_eq_true] at h
            have h2 := h.2
            rw [T.kids, allL_append, Bool.and_eq_true, ← allF_eq] at h2
            rw [HFE.out]
            exact allF_at h2.1 hlt
          have HFT : Hid f.type.Fit := by rw [HFE.out]; exact (HF.out.parts.2.2.2.2.1.at_ hlt).type
          go_region_law (first
            | (refine step_append_lies _ (by rfl) _ _ _ (by rfl) w2.heap.size 29 j0 (.agg #[.int .i64 0, .int .i64 0, .string ByteArray.empty, .slice none 0 0, .slice none 0 0]) 5 80 Tryz.underlying27 HJ.out HJ0.out HJ1.out HJ2.out (by rfl) (by omega) v4' (leastF (t.fields.take k)).length cs' (by rfl) (HO47.out.alloc _) ⟨w7.heap.size, 0, none⟩ 1 1
                 [.int .i64 f.type.least.kind, .int .i64 f.type.least.num, .string f.type.least.str, .slice A7 f.type.least.keys.length c7, .slice A8 f.type.least.kids.length c8] (by rfl) (by rfl) (World.news_of_block (cs := #[.int .i64 f.type.least.kind, .int .i64 f.type.least.num, .string f.type.least.str, .slice A7 f.type.least.keys.length c7, .slice A8 f.type.least.kids.length c8]) (t := 29) (fr := (0, 0)) (heap_alloc_new w7 _)) (by simp [Value.oneCell']) (by omega) (by unfold maxLen; omega) (by omega) (by simp; omega) (w7.heap.size + 1) (by simp) ?_
               intro g8 cap8 w8 hown8 hgrow8 hat8 hlt8
               have mf8 : w8.frozen? ⟨w.heap.size + 2, 4, none⟩ = false := ((hgrow8.frozen_far ⟨w.heap.size + 2, 4, none⟩ (by simp; omega) (Ne.symm ag4)).trans ((frozen_alloc_lt hbl7 _ 4).trans (mf7 4)))
               have m48 := (hgrow8.cell_far ⟨w.heap.size + 2, 4, none⟩ (by simp; omega) (Ne.symm ag4)).trans ((cell_alloc_lt' hbl7 _ 4).trans m47))
            | (go_wp2_with fail
               go_at_call 85
               refine (IH.out f.type _ w6.drew B hdep HAT.out HFT.out (by show B ≤ w6.heap.size; omega) ⟨_, _, _, _, _, _, rfl, TypeIn.keep (w := w6) (w' := w6.drew) (Nat.le_refl _) (fun _ _ => rfl) HTI6.out⟩).mono ?_
               rintro e w7 ⟨y0, y1, y2, y3, y4, G, rfl, hG, hGn, hb7⟩
               obtain ⟨A7, c7, A8, c8, rfl, rfl, rfl, rfl, rfl⟩ := hG.doc.forms
               have hb67 : Below w6.heap.size w6 w7 := (Below.refl _ _).drew.trans hb7
               have HG7 := Lib.hid hG; have HGN := Lib.hid hGn
               have hz7 : w6.heap.size ≤ w7.heap.size := hb67.size
               have HO47 : Hid (w7.ownsRow w2.heap.size 29 5 v4' (leastF (t.fields.take k)).length cs') := ownsRow_same HST6.out.o4 fun j hj => hb67.block j (HST6.out.o4.lt j (blk_mem.1 hj)).2
               have hbl7 : w.heap.size + 2 < w7.heap.size := by omega
               have m47 : w7.cell? ⟨w.heap.size + 2, 4, none⟩ = some v4' := (hb67.cell (p := ⟨w.heap.size + 2, 4, none⟩) (by show w.heap.size + 2 < w6.heap.size; omega)).trans q4
               have mf7 : ∀ i, w7.frozen? ⟨w.heap.size + 2, i, none⟩ = false := fun i => (World.frozen?_of_block (a := ⟨w.heap.size + 2, i, none⟩) (hb67.block (w.heap.size + 2) (by omega))).trans (q5 i)
               have HB67 := Lib.hid hb67
               clear hG hGn hb7 hb67))
          all_goals (go_wp2_with fail)
          all_goals go_roundw
          all_goals first
            | (exact ⟨k + 1, _, _, _, _, by omega, by go_num, by rw [HKT.out, HLT.out, HO.out]; exact HST6.out.kid (by omega) HB67.out HG7.out HGN.out hown8 _ hgrow8 hat8⟩)
            | (simp [intOf]; omega)
    · have hkl : k = t.fields.length := by omega
      subst hkl
      have hst2 := HST.out
      rw [List.take_length] at hst2
      have HST2 := Lib.hid hst2
      clear hst2
      have hrr : Box5 wr (w.heap.size + 1) (.int .i64 0) (.int .i64 0) (.string ⟨#[]⟩) (.slice none 0 0) (.slice none 0 0) := HR2.out.same (HST.out.t.block _ (by omega) (by simp) (by omega))
      have HRR := Lib.hid hrr
      clear hrr
      obtain ⟨q0, q1, q2, q3, q4⟩ := HST2.out.bx.cells
      obtain ⟨r0, r1, r2, r3, r4⟩ := HRR.out.cells
      have r5 := HRR.out.frozen
      obtain ⟨A6, c6, rfl⟩ := ownsRow_slice HST2.out.o3
      obtain ⟨A7, c7, rfl⟩ := ownsRow_slice HST2.out.o4
      go_wp2_with fail
      have hfin := ((((HRR.out.set0 (.int .i64 1)).set1 (.int .i64 0)).set2 (.string ⟨#[]⟩)).set3 (.slice A6 (keysF t.fields).length c6)).set4 (.slice A7 (leastF t.fields).length c7)
      clear q0 q1 q2 q3 q4 r0 r1 r2 r3 r4 r5 t0 t1 t2 t3 t4 t5
      refine ret_cell5 rfl rfl hfin.load rfl ?_
      exact doc_out HST2.out HL.out (by omega) (by omega) (by omega) HB2.out
end Go.Proofs.YteecdmceleanjaaGreatDoor
namespace Go.Proofs.YteecdmceleanjaaGreatDoor
open Go.RowKit

set_option maxHeartbeats 8000000 in
set_option maxRecDepth 100000 in
theorem rleast_list {t : T} {v : Value} {w : World} {B m : Nat} (hk : t.kind = 3) (hok : LeastOk t) (hm : t.depth ≤ m + 1) (hall : allT t = true) (hf : t.Fit) (hB : B ≤ w.heap.size) (ht : TypeV w B t v) (ih : RLeastsTo m) :
    Calls Tryz.prog 85 #[v] w (MadeDoc w.heap.size w t.least) := by
  have hf0 := hok.fs (by omega)
  obtain ⟨x, ho1⟩ := hok.of1 (by omega)
  have hlo := hok.lo (by omega)
  obtain ⟨N, hN⟩ : ∃ N : Nat, min t.lo 8 = (N : Int) := ⟨(min t.lo 8).toNat, by omega⟩
  have hN8 : N ≤ 8 := by omega
  have hl : t.least = .mk 3 0 ⟨#[]⟩ [] (List.replicate N x.least) := by
    rw [least_eq, hf0, ho1]
    have : leastN t.lo = N := by unfold leastN; omega
    simp [keysF, keysO, leastF, leastO, this, hk, leastKind, leastNum, leastStr]
  have HL := Lib.hid hl; have HALL := Lib.hid hall; have HF := Lib.hid hf; have IH := Lib.hid ih
  have HO1 := Lib.hid ho1
  obtain ⟨v0, v1, v2, v3, v4, v5, rfl, hd⟩ := ht
  have HOF := Lib.hid hd.of_
  obtain ⟨A3, c3, A4, c4, A5, c5, rfl, rfl, rfl, rfl, rfl, rfl⟩ := hd.forms
  rw [hk, ho1]
  rw [ho1] at HOF
  clear hd hl hok hall hf ih hk hf0 ho1
  go_enter Tryz.func85, Tryz.ntmps85
  go_wp2_with fail
  obtain ⟨w2, hw2⟩ : ∃ w2, w2 = ((w.alloc (.cells #[.int .i64 3, .int .i64 t.lo, .int .i64 t.hi, .slice A3 t.names.length c3, .slice A4 t.fields.length c4, .slice A5 1 c5] 26)).alloc (.cells #[.int .i64 0, .int .i64 0, .string ⟨#[]⟩, .slice none 0 0, .slice none 0 0] 29)).alloc (.cells #[.int .i64 3, .int .i64 0, .string ⟨#[]⟩, .slice none 0 0, .slice none 0 0] 29) := ⟨_, rfl⟩
  have HT2 : Hid (Box6 w2 w.heap.size (.int .i64 3) (.int .i64 t.lo) (.int .i64 t.hi) (.slice A3 t.names.length c3) (.slice A4 t.fields.length c4) (.slice A5 1 c5)) := by rw [hw2]; exact ((Box6.new w _ _ _ _ _ _).alloc _).alloc _
  have HR2 : Hid (Box5 w2 (w.heap.size + 1) (.int .i64 0) (.int .i64 0) (.string ⟨#[]⟩) (.slice none 0 0) (.slice none 0 0)) := by rw [hw2]; exact (Box5.new' (by simp) _ _ _ _ _).alloc _
  have HD2 : Hid (Box5 w2 (w.heap.size + 2) (.int .i64 3) (.int .i64 0) (.string ⟨#[]⟩) (.slice none 0 0) (.slice none 0 0)) := by rw [hw2]; exact Box5.new' (by simp) _ _ _ _ _
  have HB2 : Hid (Below w.heap.size w w2) := by rw [hw2]; exact (((Below.refl _ _).alloc (Nat.le_refl _) _).alloc (by simp) _).alloc (by simp; omega) _
  have hz20 : w.heap.size + 3 ≤ w2.heap.size := by rw [hw2]; simp
  rw [← hw2]
  clear hw2
  obtain ⟨A5', c5', e5, _, hof⟩ := HOF.out
  injection e5 with e5 _ e6
  subst e5; subst e6
  obtain ⟨b, off, rfl, hbB, hof⟩ := hof (by simp)
  obtain ⟨y0, y1, y2, y3, y4, y5, g0, g1, g2, g3, g4, g5, hti⟩ := hof.at_ 0 (by simp)
  simp only [Nat.zero_mul, Nat.add_zero, List.getElem_cons_zero] at g0 g1 g2 g3 g4 g5 hti
  have HTI := Lib.hid hti
  obtain ⟨X3, x3, X4, x4, X5, x5, rfl, rfl, rfl, rfl, rfl, rfl⟩ := hti.forms
  have HCE : Hid (_ ∧ _ ∧ _ ∧ _ ∧ _ ∧ _) := Lib.hid ⟨g0, g1, g2, g3, g4, g5⟩
  clear hti hof g0 g1 g2 g3 g4 g5
  have hdep : x.depth ≤ m := by have := T.of_depth (t := t) (i := 0) (by rw [HO1.out]; simp); simp only [HO1.out, List.getElem_cons_zero] at this; omega
  have HAT : Hid (allT x = true) := by
    have h := HALL.out
    rw [allT_eq, Bool.and_eq_true] at h
    have h2 := h.2
    rw [T.kids, allL_append, Bool.and_eq_true, HO1.out] at h2
    exact Lib.hid (by simpa [allL] using h2.2)
  have HFT : Hid x.Fit := by
    have h := HF.out.parts.2.2.2.2.2
    rw [HO1.out] at h
    exact h.at_ (i := 0) (by simp)
  have HHN := Lib.hid hN
  clear hN
  go_loopw [6] (fun i wr => ∃ (k : Nat) (v3 v4 : Value) (cs : List Value) (F : List Nat), k ≤ N ∧ i = .int .i64 k ∧ DocSt w2 wr (w.heap.size + 2) 3 0 ⟨#[]⟩ [] (List.replicate k x.least) v3 v4 cs F) (fun i _ => N - (intOf i).toNat)
  case atStart => exact ⟨0, _, _, [], [], Nat.zero_le _, rfl, HD2.out, by simpa [kKeys] using World.ownsRow_nil _ _ _ _, World.ownsRow_nil _ _ _ _, by simp [OwnKids], by simp [blk, Value.ownBlock], Turned.of_below (Below.refl _ _) _ _⟩
  case round =>
    obtain ⟨k, v3, v4, cs, F, hk0, rfl, hst⟩ := hrel
    have HST := Lib.hid hst
    have hzr := hst.t.size
    clear hst
    have HTR := Lib.hid (HT2.out.same (HST.out.t.block _ (by omega) (by simp) (by omega)))
    obtain ⟨t0, t1, t2, t3, t4, t5⟩ := HTR.out.cells
    have htl : w.heap.size < wr.heap.size := by omega
    by_cases hlt : k < N
    · have hkl : (k : Int) < t.lo := by have := HHN.out; omega
      have hk8 : (k : Int) < 8 := by omega
      have HLS : Hid (List.replicate (k + 1) x.least = List.replicate k x.least ++ [x.least]) := Lib.hid List.replicate_succ'
      have HLSN : Hid ((List.replicate k x.least).length ≤ 10000) := Lib.hid (by rw [List.length_replicate]; omega)
      generalize List.replicate k x.least = LS at *
      go_upto_region 19 with fail
      clear t0 t1 t2 t3 t4 t5
      obtain ⟨w6, hw6⟩ : ∃ w6, w6 = wr := ⟨_, rfl⟩
      rw [← hw6] at HST ⊢
      clear hw6
      have HST6 := HST
      have hz6 := HST6.out.t.size
      have HTR6 := Lib.hid (HT2.out.same (HST6.out.t.block _ (by omega) (by simp) (by omega)))
      obtain ⟨t0, t1, t2, t3, t4, t5⟩ := HTR6.out.cells
      have hlow : ∀ p : Addr, p.block < w.heap.size → w6.cell? p = w.cell? p := fun p hp => World.cell?_of_block (a := p) ((HST6.out.t.block p.block (by omega) (by simp) (by omega)).trans (HB2.out.block p.block (by omega)))
      have HTI6 := Lib.hid (HTI.out.keep (w' := w6) (Nat.le_refl B) fun p hp => hlow p (by omega))
      obtain ⟨g0, g1, g2, g3, g4, g5⟩ := HCE.out
      rw [← hlow ⟨b, _, none⟩ (by show b < _; omega)] at g0 g1 g2 g3 g4 g5
      clear hlow
      have hbr6 : b < w6.heap.size := by omega
      have htl6 : w.heap.size < w6.heap.size := by omega
      obtain ⟨q0, q1, q2, q3, q4⟩ := HST6.out.bx.cells
      have q5 := HST6.out.bx.frozen
      have ag4 : v4.ownBlock ≠ some (w.heap.size + 2) := fun h => by have := (HST6.out.o4.lt _ h).1; omega
      have hpd : LS.length ≤ 10000 := HLSN.out
      obtain ⟨j0, hj, hy0, hy1, hy2⟩ := info_parts infoD
      have HJ := Lib.hid hj; have HJ0 := Lib.hid hy0; have HJ1 := Lib.hid hy1; have HJ2 := Lib.hid hy2
      clear hj hy0 hy1 hy2
      go_region_law (first
        | (refine step_append_lies _ (by rfl) _ _ _ (by rfl) w2.heap.size 29 j0 (.agg #[.int .i64 0, .int .i64 0, .string ByteArray.empty, .slice none 0 0, .slice none 0 0]) 5 80 Tryz.underlying27 HJ.out HJ0.out HJ1.out HJ2.out (by rfl) (by omega) v4 LS.length cs (by rfl) (HO47.out.alloc _) ⟨w7.heap.size, 0, none⟩ 1 1
             [.int .i64 x.least.kind, .int .i64 x.least.num, .string x.least.str, .slice A7 x.least.keys.length c7, .slice A8 x.least.kids.length c8] (by rfl) (by rfl) (World.news_of_block (cs := #[.int .i64 x.least.kind, .int .i64 x.least.num, .string x.least.str, .slice A7 x.least.keys.length c7, .slice A8 x.least.kids.length c8]) (t := 29) (fr := (0, 0)) (heap_alloc_new w7 _)) (by simp [Value.oneCell']) (by omega) (by unfold maxLen; omega) (by omega) (by simp; omega) (w7.heap.size + 1) (by simp) ?_
           intro g8 cap8 w8 hown8 hgrow8 hat8 hlt8
           have mf8 : w8.frozen? ⟨w.heap.size + 2, 4, none⟩ = false := ((hgrow8.frozen_far ⟨w.heap.size + 2, 4, none⟩ (by simp; omega) (Ne.symm ag4)).trans ((frozen_alloc_lt hbl7 _ 4).trans (mf7 4)))
           have m48 := (hgrow8.cell_far ⟨w.heap.size + 2, 4, none⟩ (by simp; omega) (Ne.symm ag4)).trans ((cell_alloc_lt' hbl7 _ 4).trans m47))
        | (go_wp2_with fail
           go_at_call 85
           refine (IH.out x _ w6.drew B hdep HAT.out HFT.out (by show B ≤ w6.heap.size; omega) ⟨_, _, _, _, _, _, rfl, TypeIn.keep (w := w6) (w' := w6.drew) (Nat.le_refl _) (fun _ _ => rfl) HTI6.out⟩).mono ?_
           rintro e w7 ⟨z0, z1, z2, z3, z4, G, rfl, hG, hGn, hb7⟩
           obtain ⟨A7, c7, A8, c8, rfl, rfl, rfl, rfl, rfl⟩ := hG.doc.forms
           have hb67 : Below w6.heap.size w6 w7 := (Below.refl _ _).drew.trans hb7
           have HG7 := Lib.hid hG; have HGN := Lib.hid hGn
           have hz7 : w6.heap.size ≤ w7.heap.size := hb67.size
           have HO47 : Hid (w7.ownsRow w2.heap.size 29 5 v4 LS.length cs) := ownsRow_same HST6.out.o4 fun j hj => hb67.block j (HST6.out.o4.lt j (blk_mem.1 hj)).2
           have hbl7 : w.heap.size + 2 < w7.heap.size := by omega
           have m47 : w7.cell? ⟨w.heap.size + 2, 4, none⟩ = some v4 := (hb67.cell (p := ⟨w.heap.size + 2, 4, none⟩) (by show w.heap.size + 2 < w6.heap.size; omega)).trans q4
           have mf7 : ∀ i, w7.frozen? ⟨w.heap.size + 2, i, none⟩ = false := fun i => (World.frozen?_of_block (a := ⟨w.heap.size + 2, i, none⟩) (hb67.block (w.heap.size + 2) (by omega))).trans (q5 i)
           have HB67 := Lib.hid hb67
           clear hG hGn hb7 hb67))
      all_goals (go_wp2_with fail)
      all_goals go_roundw
      all_goals first
        | (exact ⟨k + 1, _, _, _, _, by omega, by go_num, by rw [HLS.out]; exact HST6.out.kid (by omega) HB67.out HG7.out HGN.out hown8 _ hgrow8 hat8⟩)
        | (simp [intOf]; omega)
    · have hkl : k = N := by omega
      subst hkl
      have hrr : Box5 wr (w.heap.size + 1) (.int .i64 0) (.int .i64 0) (.string ⟨#[]⟩) (.slice none 0 0) (.slice none 0 0) := HR2.out.same (HST.out.t.block _ (by omega) (by simp) (by omega))
      have HRR := Lib.hid hrr
      clear hrr
      obtain ⟨q0, q1, q2, q3, q4⟩ := HST.out.bx.cells
      obtain ⟨r0, r1, r2, r3, r4⟩ := HRR.out.cells
      have r5 := HRR.out.frozen
      obtain ⟨A6, c6, rfl⟩ := ownsRow_slice HST.out.o3
      obtain ⟨A7, c7, rfl⟩ := ownsRow_slice HST.out.o4
      have hmin := HHN.out
      generalize List.replicate k x.least = LS at *
      by_cases hlo2 : (k : Int) < t.lo
      · have h8 : ¬ (k : Int) < 8 := by omega
        clear hmin
        go_wp2_with fail
        have hfin := ((((HRR.out.set0 (.int .i64 3)).set1 (.int .i64 0)).set2 (.string ⟨#[]⟩)).set3 (.slice A6 ([] : List ByteArray).length c6)).set4 (.slice A7 LS.length c7)
        clear q0 q1 q2 q3 q4 r0 r1 r2 r3 r4 r5 t0 t1 t2 t3 t4 t5
        refine ret_cell5 rfl rfl hfin.load rfl ?_
        exact doc_out HST.out HL.out (by omega) (by omega) (by omega) HB2.out
      · clear hmin
        go_wp2_with fail
        have hfin := ((((HRR.out.set0 (.int .i64 3)).set1 (.int .i64 0)).set2 (.string ⟨#[]⟩)).set3 (.slice A6 ([] : List ByteArray).length c6)).set4 (.slice A7 LS.length c7)
        clear q0 q1 q2 q3 q4 r0 r1 r2 r3 r4 r5 t0 t1 t2 t3 t4 t5
        refine ret_cell5 rfl rfl hfin.load rfl ?_
        exact doc_out HST.out HL.out (by omega) (by omega) (by omega) HB2.out
end Go.Proofs.YteecdmceleanjaaGreatDoor
namespace Go.Proofs.YteecdmceleanjaaGreatDoor
open Go.RowKit

theorem conv_dig1 {m : Nat} (hm : m ≤ 9) (Y : World) (g : Nat) (hc : Y.cell? ⟨g, 0, none⟩ = some (.int .u8 (48 + (m : Int)))) :
    (convert 108 9 (.slice (some ⟨g, 0, none⟩) 1 1)).run Tryz.prog Y = .ok (.string ⟨#[UInt8.ofNat (48 + m)]⟩) Y := by
  have hn : (UInt8.ofNat (48 + m)).toNat = 48 + m := by simp [UInt8.toNat_ofNat]; omega
  exact run_convert_bytes_back Y 108 9 5 ⟨g, 0, none⟩ 1 [UInt8.ofNat (48 + m)] Tryz.underlying108 Tryz.underlying5 Tryz.underlying9 fun j hj => by
    obtain rfl : j = 0 := by simpa using hj
    rw [show (Addr.mk g 0 none).add 0 = ⟨g, 0, none⟩ from rfl, hc]
    simp only [List.getElem_cons_zero, hn]
    rfl
set_option maxHeartbeats 8000000 in
set_option maxRecDepth 100000 in
theorem rleast_dict {t : T} {v : Value} {w : World} {B m : Nat} (hk : t.kind = 2) (hok : LeastOk t) (hm : t.depth ≤ m + 1) (hall : allT t = true) (hf : t.Fit) (hB : B ≤ w.heap.size) (ht : TypeV w B t v) (ih : RLeastsTo m) :
    Calls Tryz.prog 85 #[v] w (MadeDoc w.heap.size w t.least) := by
  have hf0 := hok.fs (by omega)
  obtain ⟨x, ho1⟩ := hok.of1 (by omega)
  have hlo := hok.lo (by omega)
  obtain ⟨N, hN⟩ : ∃ N : Nat, min t.lo 8 = (N : Int) := ⟨(min t.lo 8).toNat, by omega⟩
  have hN8 : N ≤ 8 := by omega
  have hl : t.least = .mk 2 0 ⟨#[]⟩ (kKeys N) (List.replicate N x.least) := by
    rw [least_eq, hf0, ho1]
    have : leastN t.lo = N := by unfold leastN; omega
    simp [keysF, keysO, leastF, leastO, this, hk, leastKind, leastNum, leastStr]
  have HL := Lib.hid hl; have HALL := Lib.hid hall; have HF := Lib.hid hf; have IH := Lib.hid ih
  have HO1 := Lib.hid ho1
  obtain ⟨v0, v1, v2, v3, v4, v5, rfl, hd⟩ := ht
  have HOF := Lib.hid hd.of_
  obtain ⟨A3, c3, A4, c4, A5, c5, rfl, rfl, rfl, rfl, rfl, rfl⟩ := hd.forms
  rw [hk, ho1]
  rw [ho1] at HOF
  clear hd hl hok hall hf ih hk hf0 ho1
  go_enter Tryz.func85, Tryz.ntmps85
  go_wp2_with fail
  obtain ⟨w2, hw2⟩ : ∃ w2, w2 = ((w.alloc (.cells #[.int .i64 2, .int .i64 t.lo, .int .i64 t.hi, .slice A3 t.names.length c3, .slice A4 t.fields.length c4, .slice A5 1 c5] 26)).alloc (.cells #[.int .i64 0, .int .i64 0, .string ⟨#[]⟩, .slice none 0 0, .slice none 0 0] 29)).alloc (.cells #[.int .i64 2, .int .i64 0, .string ⟨#[]⟩, .slice none 0 0, .slice none 0 0] 29) := ⟨_, rfl⟩
  have HT2 : Hid (Box6 w2 w.heap.size (.int .i64 2) (.int .i64 t.lo) (.int .i64 t.hi) (.slice A3 t.names.length c3) (.slice A4 t.fields.length c4) (.slice A5 1 c5)) := by rw [hw2]; exact ((Box6.new w _ _ _ _ _ _).alloc _).alloc _
  have HR2 : Hid (Box5 w2 (w.heap.size + 1) (.int .i64 0) (.int .i64 0) (.string ⟨#[]⟩) (.slice none 0 0) (.slice none 0 0)) := by rw [hw2]; exact (Box5.new' (by simp) _ _ _ _ _).alloc _
  have HD2 : Hid (Box5 w2 (w.heap.size + 2) (.int .i64 2) (.int .i64 0) (.string ⟨#[]⟩) (.slice none 0 0) (.slice none 0 0)) := by rw [hw2]; exact Box5.new' (by simp) _ _ _ _ _
  have HB2 : Hid (Below w.heap.size w w2) := by rw [hw2]; exact (((Below.refl _ _).alloc (Nat.le_refl _) _).alloc (by simp) _).alloc (by simp; omega) _
  have hz20 : w.heap.size + 3 ≤ w2.heap.size := by rw [hw2]; simp
  rw [← hw2]
  clear hw2
  obtain ⟨A5', c5', e5, _, hof⟩ := HOF.out
  injection e5 with e5 _ e6
  subst e5; subst e6
  obtain ⟨b, off, rfl, hbB, hof⟩ := hof (by simp)
  obtain ⟨y0, y1, y2, y3, y4, y5, g0, g1, g2, g3, g4, g5, hti⟩ := hof.at_ 0 (by simp)
  simp only [Nat.zero_mul, Nat.add_zero, List.getElem_cons_zero] at g0 g1 g2 g3 g4 g5 hti
  have HTI := Lib.hid hti
  obtain ⟨X3, x3, X4, x4, X5, x5, rfl, rfl, rfl, rfl, rfl, rfl⟩ := hti.forms
  have HCE : Hid (_ ∧ _ ∧ _ ∧ _ ∧ _ ∧ _) := Lib.hid ⟨g0, g1, g2, g3, g4, g5⟩
  clear hti hof g0 g1 g2 g3 g4 g5
  have hdep : x.depth ≤ m := by have := T.of_depth (t := t) (i := 0) (by rw [HO1.out]; simp); simp only [HO1.out, List.getElem_cons_zero] at this; omega
  have HAT : Hid (allT x = true) := by
    have h := HALL.out
    rw [allT_eq, Bool.and_eq_true] at h
    have h2 := h.2
    rw [T.kids, allL_append, Bool.and_eq_true, HO1.out] at h2
    exact Lib.hid (by simpa [allL] using h2.2)
  have HFT : Hid x.Fit := by
    have h := HF.out.parts.2.2.2.2.2
    rw [HO1.out] at h
    exact h.at_ (i := 0) (by simp)
  have HHN := Lib.hid hN
  clear hN
  go_loopw [6] (fun i wr => ∃ (k : Nat) (v3 v4 : Value) (cs : List Value) (F : List Nat), k ≤ N ∧ i = .int .i64 k ∧ DocSt w2 wr (w.heap.size + 2) 2 0 ⟨#[]⟩ (kKeys k) (List.replicate k x.least) v3 v4 cs F) (fun i _ => N - (intOf i).toNat)
  case atStart => exact ⟨0, _, _, [], [], Nat.zero_le _, rfl, HD2.out, by simpa [kKeys] using World.ownsRow_nil _ _ _ _, World.ownsRow_nil _ _ _ _, by simp [OwnKids], by simp [blk, Value.ownBlock], Turned.of_below (Below.refl _ _) _ _⟩
  case round =>
    obtain ⟨k, v3, v4, cs, F, hk0, rfl, hst⟩ := hrel
    have HST := Lib.hid hst
    have hzr := hst.t.size
    clear hst
    have HTR := Lib.hid (HT2.out.same (HST.out.t.block _ (by omega) (by simp) (by omega)))
    obtain ⟨t0, t1, t2, t3, t4, t5⟩ := HTR.out.cells
    have htl : w.heap.size < wr.heap.size := by omega
    by_cases hlt : k < N
    · have hkl : (k : Int) < t.lo := by have := HHN.out; omega
      have hk8 : (k : Int) < 8 := by omega
      have HLS : Hid (List.replicate (k + 1) x.least = List.replicate k x.least ++ [x.least]) := Lib.hid List.replicate_succ'
      have HLSN : Hid ((List.replicate k x.least).length ≤ 10000) := Lib.hid (by rw [List.length_replicate]; omega)
      generalize List.replicate k x.least = LS at *
      have HKSN : Hid ((kKeys k).length ≤ 10000) := Lib.hid (by rw [kKeys_len]; omega)
      obtain ⟨dg, hdg⟩ : ∃ dg, dg = UInt8.ofNat (48 + k) := ⟨_, rfl⟩
      have hkk : kKey k = ⟨#[107]⟩ ++ ⟨#[dg]⟩ := by rw [hdg]; rfl
      have HKEY : Hid (kKeys (k + 1) = kKeys k ++ [⟨#[107]⟩ ++ ⟨#[dg]⟩]) := Lib.hid (by rw [kKeys_succ, hkk])
      generalize kKeys k = KS at *
      go_upto_region 18 with fail
      obtain ⟨q0, q1, q2, q3, q4⟩ := HST.out.bx.cells
      have q5 := HST.out.bx.frozen
      have hdl : w.heap.size + 2 < wr.heap.size := by omega
      have hpl : KS.length ≤ 10000 := HKSN.out
      have ag : v3.ownBlock ≠ some (w.heap.size + 2) := fun h => by have := (HST.out.o3.lt _ h).1; omega
      have hwi : IntKind.i64.wrap (48 + (k : Int)) = 48 + (k : Int) := IntWalk.i64_in _ (by omega)
      have hwu : IntKind.u8.wrap (48 + (k : Int)) = 48 + (k : Int) := IntWalk.u8_in _ (by omega)
      have hcv : (convert 108 9 (.slice (some ⟨wr.heap.size, 0, none⟩) 1 1)).run Tryz.prog (wr.alloc (.cells #[.int .u8 (48 + (k : Int))] 5)) = .ok (.string ⟨#[dg]⟩) (wr.alloc (.cells #[.int .u8 (48 + (k : Int))] 5)) := by
        rw [hdg]; exact conv_dig1 (by omega) _ _ (cell_block (heap_alloc_new wr _) 0)
      clear hdg hkk
      obtain ⟨i0, hi, hz0, hz1', hz2⟩ := info_parts infoS
      have HI := Lib.hid hi; have HZ0 := Lib.hid hz0; have HZ1 := Lib.hid hz1'; have HZ2 := Lib.hid hz2
      clear hi hz0 hz1' hz2
      have HST4 := Lib.hid (HST.out.alloc (.cells #[.int .u8 (48 + (k : Int))] 5))
      have hdl4 : w.heap.size + 2 < (wr.alloc (.cells #[.int .u8 (48 + (k : Int))] 5)).heap.size := by simp; omega
      go_wp2_with (at_builtin; refine wpList_append_lies _ rfl _ _ 22 rfl w2.heap.size 9 i0 (.string ByteArray.empty) 1 16 Tryz.underlying22 HI.out HZ0.out HZ1.out HZ2.out (by rfl) (by omega) v3 KS.length _ rfl (HST4.out.o3.alloc _) ⟨wr.heap.size + 1, 0, none⟩ 1 _ [.string (⟨#[107]⟩ ++ ⟨#[dg]⟩)] rfl rfl (World.news_of_block (heap_alloc_new' (by simp) _)) (by simp [Value.oneCell']) (by omega) (by unfold maxLen; omega) (by omega) (by simp; omega) (wr.heap.size + 1 + 1) (by simp) ?_; intro g5 cap5 w5 hown5 hgrow5 hat5 hlt5; have mf5 : w5.frozen? ⟨w.heap.size + 2, 3, none⟩ = false := ((hgrow5.frozen_far ⟨w.heap.size + 2, 3, none⟩ (by simp; omega) (Ne.symm ag)).trans ((frozen_alloc_lt hdl4 _ 3).trans ((frozen_alloc_lt hdl _ 3).trans (q5 3)))); have m45 := (hgrow5.cell_far ⟨w.heap.size + 2, 3, none⟩ (by simp; omega) (Ne.symm ag)).trans ((cell_alloc_lt' hdl4 _ 3).trans ((cell_alloc_lt' hdl _ 3).trans q3)))
      have hst6 := HST4.out.key0 (by omega) hown5 _ hgrow5 (by simpa using hat5)
      generalize w5.setCell ⟨w.heap.size + 2, 3, none⟩ (.slice (some ⟨g5, 0, none⟩) (KS.length + 1) cap5) = w6 at hst6 ⊢
      generalize Value.slice (some ⟨g5, 0, none⟩) (KS.length + 1) cap5 = v3' at hst6 ⊢
      have HST6 := Lib.hid hst6
      clear hst6 hown5 hgrow5 hat5 hlt5 mf5 m45 q0 q1 q2 q3 q4 q5 t0 t1 t2 t3 t4 t5 hwi hwu hcv
      have hz6 := HST6.out.t.size
      have HTR6 := Lib.hid (HT2.out.same (HST6.out.t.block _ (by omega) (by simp) (by omega)))
      obtain ⟨t0, t1, t2, t3, t4, t5⟩ := HTR6.out.cells
      have hlow : ∀ p : Addr, p.block < w.heap.size → w6.cell? p = w.cell? p := fun p hp => World.cell?_of_block (a := p) ((HST6.out.t.block p.block (by omega) (by simp) (by omega)).trans (HB2.out.block p.block (by omega)))
      have HTI6 := Lib.hid (HTI.out.keep (w' := w6) (Nat.le_refl B) fun p hp => hlow p (by omega))
      obtain ⟨g0, g1, g2, g3, g4, g5⟩ := HCE.out
      rw [← hlow ⟨b, _, none⟩ (by show b < _; omega)] at g0 g1 g2 g3 g4 g5
      clear hlow
      have hbr6 : b < w6.heap.size := by omega
      have htl6 : w.heap.size < w6.heap.size := by omega
      obtain ⟨q0, q1, q2, q3, q4⟩ := HST6.out.bx.cells
      have q5 := HST6.out.bx.frozen
      have ag4 : v4.ownBlock ≠ some (w.heap.size + 2) := fun h => by have := (HST6.out.o4.lt _ h).1; omega
      have hpd : LS.length ≤ 10000 := HLSN.out
      obtain ⟨j0, hj, hy0, hy1, hy2⟩ := info_parts infoD
      have HJ := Lib.hid hj; have HJ0 := Lib.hid hy0; have HJ1 := Lib.hid hy1; have HJ2 := Lib.hid hy2
      clear hj hy0 hy1 hy2
      go_region_law (first
        | (refine step_append_lies _ (by rfl) _ _ _ (by rfl) w2.heap.size 29 j0 (.agg #[.int .i64 0, .int .i64 0, .string ByteArray.empty, .slice none 0 0, .slice none 0 0]) 5 80 Tryz.underlying27 HJ.out HJ0.out HJ1.out HJ2.out (by rfl) (by omega) v4 LS.length cs (by rfl) (HO47.out.alloc _) ⟨w7.heap.size, 0, none⟩ 1 1
             [.int .i64 x.least.kind, .int .i64 x.least.num, .string x.least.str, .slice A7 x.least.keys.length c7, .slice A8 x.least.kids.length c8] (by rfl) (by rfl) (World.news_of_block (cs := #[.int .i64 x.least.kind, .int .i64 x.least.num, .string x.least.str, .slice A7 x.least.keys.length c7, .slice A8 x.least.kids.length c8]) (t := 29) (fr := (0, 0)) (heap_alloc_new w7 _)) (by simp [Value.oneCell']) (by omega) (by unfold maxLen; omega) (by omega) (by simp; omega) (w7.heap.size + 1) (by simp) ?_
           intro g8 cap8 w8 hown8 hgrow8 hat8 hlt8
           have mf8 : w8.frozen? ⟨w.heap.size + 2, 4, none⟩ = false := ((hgrow8.frozen_far ⟨w.heap.size + 2, 4, none⟩ (by simp; omega) (Ne.symm ag4)).trans ((frozen_alloc_lt hbl7 _ 4).trans (mf7 4)))
           have m48 := (hgrow8.cell_far ⟨w.heap.size + 2, 4, none⟩ (by simp; omega) (Ne.symm ag4)).trans ((cell_alloc_lt' hbl7 _ 4).trans m47))
        | (go_wp2_with fail
           go_at_call 85
           refine (IH.out x _ w6.drew B hdep HAT.out HFT.out (by show B ≤ w6.heap.size; omega) ⟨_, _, _, _, _, _, rfl, TypeIn.keep (w := w6) (w' := w6.drew) (Nat.le_refl _) (fun _ _ => rfl) HTI6.out⟩).mono ?_
           rintro e w7 ⟨z0, z1, z2, z3, z4, G, rfl, hG, hGn, hb7⟩
           obtain ⟨A7, c7, A8, c8, rfl, rfl, rfl, rfl, rfl⟩ := hG.doc.forms
           have hb67 : Below w6.heap.size w6 w7 := (Below.refl _ _).drew.trans hb7
           have HG7 := Lib.hid hG; have HGN := Lib.hid hGn
           have hz7 : w6.heap.size ≤ w7.heap.size := hb67.size
           have HO47 : Hid (w7.ownsRow w2.heap.size 29 5 v4 LS.length cs) := ownsRow_same HST6.out.o4 fun j hj => hb67.block j (HST6.out.o4.lt j (blk_mem.1 hj)).2
           have hbl7 : w.heap.size + 2 < w7.heap.size := by omega
           have m47 : w7.cell? ⟨w.heap.size + 2, 4, none⟩ = some v4 := (hb67.cell (p := ⟨w.heap.size + 2, 4, none⟩) (by show w.heap.size + 2 < w6.heap.size; omega)).trans q4
           have mf7 : ∀ i, w7.frozen? ⟨w.heap.size + 2, i, none⟩ = false := fun i => (World.frozen?_of_block (a := ⟨w.heap.size + 2, i, none⟩) (hb67.block (w.heap.size + 2) (by omega))).trans (q5 i)
           have HB67 := Lib.hid hb67
           clear hG hGn hb7 hb67))
      all_goals (go_wp2_with fail)
      all_goals go_roundw
      all_goals first
        | (exact ⟨k + 1, _, _, _, _, by omega, by go_num, by rw [HKEY.out, HLS.out]; exact HST6.out.kid (by omega) HB67.out HG7.out HGN.out hown8 _ hgrow8 hat8⟩)
        | (simp [intOf]; omega)
    · have hkl : k = N := by omega
      subst hkl
      have hrr : Box5 wr (w.heap.size + 1) (.int .i64 0) (.int .i64 0) (.string ⟨#[]⟩) (.slice none 0 0) (.slice none 0 0) := HR2.out.same (HST.out.t.block _ (by omega) (by simp) (by omega))
      have HRR := Lib.hid hrr
      clear hrr
      obtain ⟨q0, q1, q2, q3, q4⟩ := HST.out.bx.cells
      obtain ⟨r0, r1, r2, r3, r4⟩ := HRR.out.cells
      have r5 := HRR.out.frozen
      obtain ⟨A6, c6, rfl⟩ := ownsRow_slice HST.out.o3
      obtain ⟨A7, c7, rfl⟩ := ownsRow_slice HST.out.o4
      have hmin := HHN.out
      generalize hKS : (kKeys k) = KS at *
      generalize List.replicate k x.least = LS at *
      clear hKS
      by_cases hlo2 : (k : Int) < t.lo
      · have h8 : ¬ (k : Int) < 8 := by omega
        clear hmin
        go_wp2_with fail
        have hfin := ((((HRR.out.set0 (.int .i64 2)).set1 (.int .i64 0)).set2 (.string ⟨#[]⟩)).set3 (.slice A6 KS.length c6)).set4 (.slice A7 LS.length c7)
        clear q0 q1 q2 q3 q4 r0 r1 r2 r3 r4 r5 t0 t1 t2 t3 t4 t5
        refine ret_cell5 rfl rfl hfin.load rfl ?_
        exact doc_out HST.out HL.out (by omega) (by omega) (by omega) HB2.out
      · clear hmin
        go_wp2_with fail
        have hfin := ((((HRR.out.set0 (.int .i64 2)).set1 (.int .i64 0)).set2 (.string ⟨#[]⟩)).set3 (.slice A6 KS.length c6)).set4 (.slice A7 LS.length c7)
        clear q0 q1 q2 q3 q4 r0 r1 r2 r3 r4 r5 t0 t1 t2 t3 t4 t5
        refine ret_cell5 rfl rfl hfin.load rfl ?_
        exact doc_out HST.out HL.out (by omega) (by omega) (by omega) HB2.out
end Go.Proofs.YteecdmceleanjaaGreatDoor
