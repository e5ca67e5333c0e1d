/-
  The least document of a type: plain lemmas.
-/
import Derived.Test.YtlemlgllkcgigaaGreatDoorF01
import Derived.Lib.ItoaNum
import Derived.Test.YtlemlgllkcgigaaGreatDoorF05
import Derived.Test.YtlemlgllkcgigaaGreatDoorF07
import Derived.Test.YtlemlgllkcgigaaGreatDoorF02
namespace Go.Proofs.YtlemlgllkcgigaaGreatDoor
open Go.RowKit

def aStr (n : Nat) : ByteArray := ⟨(List.replicate n (97 : UInt8)).toArray⟩
def leastKind (k : Int) : Int := if k = 7 then 6 else k
def leastNum (k lo hi : Int) : Int := if k = 4 then max lo (min hi 0) else 0
def leastStr (k lo : Int) (ns : List ByteArray) : ByteArray := if k = 6 then aStr lo.toNat else if k = 7 then ns.headD ⟨#[]⟩ else ⟨#[]⟩
def leastN (lo : Int) : Nat := (min lo 8).toNat
def kKey (i : Nat) : ByteArray := ⟨#[107, UInt8.ofNat (48 + i)]⟩
theorem decDigits_one (i : Nat) (h : i < 10) : (Lib.decDigits i).toArray = #[UInt8.ofNat (48 + i)] := by rw [Lib.decDigits, dif_pos h]
def kKeys (n : Nat) : List ByteArray := (List.range n).map kKey
def keysF : List F → List ByteArray
  | [] => []
  | f :: r => (if f.opt then [] else [f.name]) ++ keysF r
def keysO (k lo : Int) (of : List T) : List ByteArray := if k = 2 then (if of.isEmpty then [] else kKeys (leastN lo)) else []
mutual
/-- What Least tells of a type that is right. -/
def T.least : T → D
  | .mk k lo hi ns fs of => .mk (leastKind k) (leastNum k lo hi) (leastStr k lo ns) (keysF fs ++ keysO k lo of) (leastF fs ++ leastO (leastN lo) of)
def leastF : List F → List D
  | [] => []
  | f :: r => leastF1 f ++ leastF r
def leastF1 : F → List D
  | .mk _ o t => if o then [] else [t.least]
def leastO (n : Nat) : List T → List D
  | [] => []
  | x :: r => List.replicate n x.least ++ leastO n r
end
theorem least_eq (t : T) : t.least = .mk (leastKind t.kind) (leastNum t.kind t.lo t.hi) (leastStr t.kind t.lo t.names) (keysF t.fields ++ keysO t.kind t.lo t.of) (leastF t.fields ++ leastO (leastN t.lo) t.of) := by
  obtain ⟨_, _, _, _, _, _⟩ := t; simp only [T.least, T.kind, T.lo, T.hi, T.names, T.fields, T.of]
theorem leastF1_eq (f : F) : leastF1 f = if f.opt then [] else [f.type.least] := by obtain ⟨_, _, _⟩ := f; simp only [leastF1, F.opt, F.type]; rfl
theorem keysF_append : ∀ a b : List F, keysF (a ++ b) = keysF a ++ keysF b
  | [], b => by simp [keysF]
  | f :: r, b => by simp only [List.cons_append, keysF, keysF_append r b, List.append_assoc]
theorem leastF_append : ∀ a b : List F, leastF (a ++ b) = leastF a ++ leastF b
  | [], b => by simp [leastF]
  | f :: r, b => by simp only [List.cons_append, leastF, leastF_append r b, List.append_assoc]
theorem keysF_take (l : List F) (k : Nat) (h : k < l.length) : keysF (l.take (k + 1)) = keysF (l.take k) ++ (if (l[k]).opt then [] else [(l[k]).name]) := by
  rw [List.take_succ_eq_append_getElem h, keysF_append]; simp [keysF]
theorem leastF_take (l : List F) (k : Nat) (h : k < l.length) : leastF (l.take (k + 1)) = leastF (l.take k) ++ (if (l[k]).opt then [] else [(l[k]).type.least]) := by
  rw [List.take_succ_eq_append_getElem h, leastF_append]; simp [leastF, leastF1_eq]
theorem keysF_len : ∀ l : List F, (keysF l).length ≤ l.length
  | [] => by simp [keysF]
  | f :: r => by have := keysF_len r; simp only [keysF, List.length_append, List.length_cons]; split <;> simp <;> omega
theorem leastF_len : ∀ l : List F, (leastF l).length = (keysF l).length
  | [] => by simp [keysF, leastF]
  | f :: r => by have := leastF_len r; simp only [keysF, leastF, leastF1_eq, List.length_append, this]; split <;> simp
theorem kKeys_succ (n : Nat) : kKeys (n + 1) = kKeys n ++ [kKey n] := by simp [kKeys, List.range_succ]
theorem kKeys_len (n : Nat) : (kKeys n).length = n := by simp [kKeys]
end Go.Proofs.YtlemlgllkcgigaaGreatDoor

namespace Go.Proofs.YtlemlgllkcgigaaGreatDoor
open Go.RowKit

/-- What root answers: no keys, no kids. -/
def RootTold (k n : Int) (s : ByteArray) (w : World) (e : Ending) (w' : World) : Prop := e = .returned (.agg #[.int .i64 k, .int .i64 n, .string s, .slice none 0 0, .slice none 0 0]) ∧ Below w.heap.size w w'
theorem rint_v (n : Int) (w : World) : Calls Tryz.prog 36 #[.int .i64 n] w (RootTold 4 n ⟨#[]⟩ w) := by
  go_enter Tryz.func36, Tryz.ntmps36
  go_wp2_with fail
  exact ret_cell5 rfl rfl (Box5.new w _ _ _ _ _).load rfl ⟨rfl, (Below.refl _ _).alloc (Nat.le_refl _) _⟩
theorem rbytes_v (s : ByteArray) (w : World) : Calls Tryz.prog 88 #[.string s] w (RootTold 6 0 s w) := by
  go_enter Tryz.func88, Tryz.ntmps88
  go_wp2_with fail
  exact ret_cell5 rfl rfl (Box5.new w _ _ _ _ _).load rfl ⟨rfl, (Below.refl _ _).alloc (Nat.le_refl _) _⟩
theorem rbool_v (w : World) : Calls Tryz.prog 90 #[.bool false] w (RootTold 5 0 ⟨#[]⟩ w) := by
  go_enter Tryz.func90, Tryz.ntmps90
  go_wp2_with fail
  exact ret_cell5 rfl rfl ((Box5.new w _ _ _ _ _).alloc _).load rfl ⟨rfl, (((Below.refl _ _).alloc (Nat.le_refl _) _).alloc (by simp) _)⟩
theorem rcopies_nil (w : World) : Calls Tryz.prog 82 #[.slice none 0 0] w fun e w' => e = .returned (.slice none 0 0) ∧ Below w.heap.size w w' := by
  go_enter Tryz.func82, Tryz.ntmps82
  go_wp2_with fail
  refine wp_loop_rounds 1 ?_
  rw [rounds_succ]
  go_wp2_with fail
  go_ret
  exact ⟨rfl, Below.refl _ _⟩
theorem rlist_v (w : World) : Calls Tryz.prog 87 #[.slice none 0 0] w (RootTold 3 0 ⟨#[]⟩ w) := by
  go_enter Tryz.func87, Tryz.ntmps87
  go_wp2_with fail
  refine (rcopies_nil _).mono ?_
  rintro e w2 ⟨rfl, hb2⟩
  simp only [World.size_alloc] at hb2
  have hz2 := hb2.size
  simp only [World.size_alloc] at hz2
  have hx2 : Box5 w2 w.heap.size (.int .i64 0) (.int .i64 0) (.string ⟨#[]⟩) (.slice none 0 0) (.slice none 0 0) := (Box5.new w _ _ _ _ _).same (hb2.block _ (by omega))
  have HX2 := Lib.hid hx2; have HB2 := Lib.hid hb2
  obtain ⟨s0, s1, s2, s3, s4⟩ := hx2.cells
  have s5 := hx2.frozen
  clear hx2 hb2
  go_wp2_with fail
  have hfin := ((((HX2.out.set0 (.int .i64 3)).set1 (.int .i64 0)).set2 (.string ⟨#[]⟩)).set3 (.slice none 0 0)).set4 (.slice none 0 0)
  clear s0 s1 s2 s3 s4 s5
  have le0 : w.heap.size ≤ w.heap.size := Nat.le_refl _
  exact ret_cell5 rfl rfl hfin.load rfl ⟨rfl, (((((((Below.refl w.heap.size w).alloc le0 _).trans (HB2.out.mono (by omega))).setCell (by exact le0) _).setCell (by exact le0) _).setCell (by exact le0) _).setCell (by exact le0) _).setCell (by exact le0) _⟩

/-- What Least asks of the type itself: what is right but for its kids has it. -/
structure LeastOk (t : T) : Prop where
  kind : 1 ≤ t.kind ∧ t.kind ≤ 7
  of0 : t.kind ≠ 2 → t.kind ≠ 3 → t.of = []
  of1 : t.kind = 2 ∨ t.kind = 3 → ∃ x, t.of = [x]
  fs : t.kind ≠ 1 → t.fields = []
  lo : t.kind = 2 ∨ t.kind = 3 ∨ t.kind = 6 → 0 ≤ t.lo
  lo6 : t.kind = 6 → t.lo ≤ 256
  ns : t.kind = 7 → 0 < t.names.length
theorem leastOk_of {t : T} (h : soundT t = true) : LeastOk t := by
  obtain ⟨k, lo, hi, ns, fs, of⟩ := t
  simp only [soundT, T.kind, T.lo, T.hi, T.names, T.fields, T.of, unrB, namedB, fieldedB] at h
  have h7 : k = 1 ∨ k = 2 ∨ k = 3 ∨ k = 4 ∨ k = 5 ∨ k = 6 ∨ k = 7 := by
    by_cases h1 : k = 1; · omega
    by_cases h2 : k = 2; · omega
    by_cases h3 : k = 3; · omega
    by_cases h4 : k = 4; · omega
    by_cases h5 : k = 5; · omega
    by_cases h6 : k = 6; · omega
    by_cases h7 : k = 7; · omega
    simp [h1, h2, h3, h4, h5, h6, h7] at h
  refine ⟨?_, ?_, ?_, ?_, ?_, ?_, ?_⟩ <;> simp only [T.kind, T.lo, T.names, T.fields, T.of] <;>
    rcases h7 with rfl | rfl | rfl | rfl | rfl | rfl | rfl <;> simp at h ⊢ <;> (try simp only [decide_eq_true_eq] at h) <;>
    first | exact h.2.2.1 | exact h.2.2.2 | exact h.1 | exact List.length_eq_one_iff.1 h.2.2.2.2 | exact h.2.2.2.1 | exact h.2.2.2.2.2 | exact h.2.2.2.2.1 | exact of_decide_eq_true h.2.2.1 | exact List.length_eq_one_iff.1 (of_decide_eq_true h.2.2.2.2) | exact of_decide_eq_true h.2.2.2.1 | (have h1 := of_decide_eq_true h.2.2.2.1; have h2 := of_decide_eq_true h.2.2.2.2.1; omega) | omega

theorem aStr_eq (n : Nat) : (⟨(Lib.repeatL (⟨#[97]⟩ : ByteArray).data.toList n).toArray⟩ : ByteArray) = aStr n := by
  unfold aStr
  congr 2
  induction n with
  | zero => rfl
  | succ n ih => simp only [Lib.repeatL, ih, List.replicate_succ]; rfl
set_option maxHeartbeats 4000000 in
set_option maxRecDepth 100000 in
theorem root_any {t : T} {v : Value} {w : World} {B : Nat} (hok : LeastOk t) (hB : B ≤ w.heap.size) (ht : TypeV w B t v) :
    Calls Tryz.prog 55 #[v] w (RootTold (leastKind t.kind) (leastNum t.kind t.lo t.hi) (leastStr t.kind t.lo t.names) w) := by
  obtain ⟨v0, v1, v2, v3, v4, v5, rfl, hd⟩ := ht
  have hns := hd.names_
  obtain ⟨A3, c3, A4, c4, A5, c5, rfl, rfl, rfl, rfl, rfl, rfl⟩ := hd.forms
  clear hd
  obtain ⟨k, lo, hi, ns, fs, of⟩ := t
  simp only [T.kind, T.lo, T.hi, T.names, T.fields, T.of] at *
  obtain ⟨hk, _, _, _, hlo, hlo6, hn⟩ := hok
  simp only [T.kind, T.lo, T.names] at hk hlo hlo6 hn
  have h7 : k = 1 ∨ k = 2 ∨ k = 3 ∨ k = 4 ∨ k = 5 ∨ k = 6 ∨ k = 7 := by omega
  have HN := Lib.hid hns; have HLO := Lib.hid hlo; have HLO6 := Lib.hid hlo6; have HNL := Lib.hid hn
  clear hns hlo hlo6 hn hk
  have le0 : w.heap.size ≤ w.heap.size + 1 := by omega
  have fin : Hid (∀ (k n : Int) (s : ByteArray) (w2 : World), Below (w.heap.size + 1 + 1) ((w.alloc (.cells #[.int .i64 k, .int .i64 lo, .int .i64 hi, .slice A3 ns.length c3, .slice A4 fs.length c4, .slice A5 of.length c5] 26)).alloc (.cells #[.int .i64 0, .int .i64 0, .string ⟨#[]⟩, .slice none 0 0, .slice none 0 0] 29)) w2 → Box5 w2 (w.heap.size + 1) (.int .i64 0) (.int .i64 0) (.string ⟨#[]⟩) (.slice none 0 0) (.slice none 0 0) ∧ Below w.heap.size w w2) := by
    refine Lib.hid ?_
    intro k n s w2 hb
    refine ⟨(Box5.new' (by simp) _ _ _ _ _).same (hb.block _ (by omega)), ?_⟩
    exact (((Below.refl _ _).alloc (Nat.le_refl _) _).alloc (by simp) _).trans (hb.mono (by omega))
  rcases h7 with rfl | rfl | rfl | rfl | rfl | rfl | rfl
  · go_enter Tryz.func55, Tryz.ntmps55
    go_wp2_with fail
    exact ret_cell5 rfl rfl (Box5.new' (w := w.alloc (.cells #[.int .i64 1, .int .i64 lo, .int .i64 hi, .slice A3 ns.length c3, .slice A4 fs.length c4, .slice A5 of.length c5] 26)) (by simp) _ _ _ _ _).load rfl ⟨rfl, ((Below.refl _ _).alloc (Nat.le_refl _) _).alloc (by simp) _⟩
  · go_enter Tryz.func55, Tryz.ntmps55
    go_wp2_with fail
    exact ret_cell5 rfl rfl (Box5.new' (w := w.alloc (.cells #[.int .i64 2, .int .i64 lo, .int .i64 hi, .slice A3 ns.length c3, .slice A4 fs.length c4, .slice A5 of.length c5] 26)) (by simp) _ _ _ _ _).load rfl ⟨rfl, ((Below.refl _ _).alloc (Nat.le_refl _) _).alloc (by simp) _⟩
  · go_enter Tryz.func55, Tryz.ntmps55
    go_wp2_with fail
    refine (rlist_v _).mono ?_
    rintro e w2 ⟨rfl, hb2⟩
    have hz2 := hb2.size
    simp only [World.size_alloc] at hb2 hz2
    obtain ⟨hx, hb⟩ := fin.out 3 0 ⟨#[]⟩ w2 hb2
    have HX := Lib.hid hx; have HB := Lib.hid hb
    obtain ⟨s0, s1, s2, s3, s4⟩ := hx.cells
    have s5 := hx.frozen
    clear hx hb hb2
    go_wp2_with fail
    have hfin := ((((HX.out.set0 (.int .i64 3)).set1 (.int .i64 0)).set2 (.string ⟨#[]⟩)).set3 (.slice none 0 0)).set4 (.slice none 0 0)
    clear s0 s1 s2 s3 s4 s5
    exact ret_cell5 rfl rfl hfin.load rfl ⟨rfl, (((((HB.out).setCell (by exact le0) _).setCell (by exact le0) _).setCell (by exact le0) _).setCell (by exact le0) _).setCell (by exact le0) _⟩
  · go_enter Tryz.func55, Tryz.ntmps55
    go_wp2_with fail
    refine (rint_v _ _).mono ?_
    rintro e w2 ⟨rfl, hb2⟩
    have hz2 := hb2.size
    simp only [World.size_alloc] at hb2 hz2
    obtain ⟨hx, hb⟩ := fin.out 4 0 ⟨#[]⟩ w2 hb2
    have HX := Lib.hid hx; have HB := Lib.hid hb
    obtain ⟨s0, s1, s2, s3, s4⟩ := hx.cells
    have s5 := hx.frozen
    clear hx hb hb2
    go_wp2_with fail
    have hfin := ((((HX.out.set0 (.int .i64 4)).set1 (.int .i64 (max lo (min hi 0)))).set2 (.string ⟨#[]⟩)).set3 (.slice none 0 0)).set4 (.slice none 0 0)
    clear s0 s1 s2 s3 s4 s5
    exact ret_cell5 rfl rfl hfin.load rfl ⟨rfl, (((((HB.out).setCell (by exact le0) _).setCell (by exact le0) _).setCell (by exact le0) _).setCell (by exact le0) _).setCell (by exact le0) _⟩
  · go_enter Tryz.func55, Tryz.ntmps55
    go_wp2_with fail
    refine (rbool_v _).mono ?_
    rintro e w2 ⟨rfl, hb2⟩
    have hz2 := hb2.size
    simp only [World.size_alloc] at hb2 hz2
    obtain ⟨hx, hb⟩ := fin.out 5 0 ⟨#[]⟩ w2 hb2
    have HX := Lib.hid hx; have HB := Lib.hid hb
    obtain ⟨s0, s1, s2, s3, s4⟩ := hx.cells
    have s5 := hx.frozen
    clear hx hb hb2
    go_wp2_with fail
    have hfin := ((((HX.out.set0 (.int .i64 5)).set1 (.int .i64 0)).set2 (.string ⟨#[]⟩)).set3 (.slice none 0 0)).set4 (.slice none 0 0)
    clear s0 s1 s2 s3 s4 s5
    exact ret_cell5 rfl rfl hfin.load rfl ⟨rfl, (((((HB.out).setCell (by exact le0) _).setCell (by exact le0) _).setCell (by exact le0) _).setCell (by exact le0) _).setCell (by exact le0) _⟩
  · obtain ⟨n, rfl⟩ : ∃ n : Nat, lo = (n : Int) := ⟨lo.toNat, by have := HLO.out (by omega); omega⟩
    have hn : n ≤ 256 := by have := HLO6.out rfl; omega
    have EA := Lib.hid (aStr_eq n)
    go_enter Tryz.func55, Tryz.ntmps55
    go_wp2_with fail
    refine (Tryz.strings_Repeat ⟨#[97]⟩ n _ (by omega) (by show 1 * n ≤ _; omega)).mono ?_
    rintro e w1 ⟨rfl, hb1⟩
    rw [EA.out]
    have HB1 := Lib.hid hb1
    clear hb1
    go_wp2_with fail
    refine (rbytes_v _ _).mono ?_
    rintro e w2 ⟨rfl, hb2⟩
    have hb2 := HB1.out.trans (hb2.mono HB1.out.size)
    have hz2 := hb2.size
    simp only [World.size_alloc] at hb2 hz2
    obtain ⟨hx, hb⟩ := fin.out 6 0 ⟨#[]⟩ w2 hb2
    have HX := Lib.hid hx; have HB := Lib.hid hb
    obtain ⟨s0, s1, s2, s3, s4⟩ := hx.cells
    have s5 := hx.frozen
    clear hx hb hb2
    go_wp2_with fail
    have hfin := ((((HX.out.set0 (.int .i64 6)).set1 (.int .i64 0)).set2 (.string (aStr n))).set3 (.slice none 0 0)).set4 (.slice none 0 0)
    clear s0 s1 s2 s3 s4 s5
    exact ret_cell5 rfl rfl hfin.load rfl ⟨rfl, (((((HB.out).setCell (by exact le0) _).setCell (by exact le0) _).setCell (by exact le0) _).setCell (by exact le0) _).setCell (by exact le0) _⟩
  · obtain ⟨S, hS⟩ : ∃ S, S = ns.headD ⟨#[]⟩ := ⟨_, rfl⟩
    have HS := Lib.hid hS; clear hS
    obtain ⟨h1, h2⟩ : ∃ b off, A3 = some ⟨b, off, none⟩ ∧ b < B ∧ w.cell? ⟨b, off, none⟩ = some (.string S) := by
      have hl := HNL.out rfl
      obtain ⟨A', c', e, _, h⟩ := HN.out
      injection e with e _ _
      subst e
      obtain ⟨b, off, rfl, hb, hc⟩ := h hl
      refine ⟨b, off, rfl, hb, ?_⟩
      have := hc 0 hl
      obtain ⟨x, r, rfl⟩ := List.exists_cons_of_length_pos hl
      rw [HS.out]
      exact this
    obtain ⟨off, rfl, hb, hc⟩ := h2
    have hl := HNL.out rfl
    have hli : (0 : Int) < (ns.length : Int) := by omega
    have hbl : h1 < w.heap.size := by omega
    go_enter Tryz.func55, Tryz.ntmps55
    go_wp2_with fail
    refine (rbytes_v _ _).mono ?_
    rintro e w2 ⟨rfl, hb2⟩
    have hz2 := hb2.size
    simp only [World.size_alloc] at hb2 hz2
    obtain ⟨hx, hb⟩ := fin.out 7 0 ⟨#[]⟩ w2 hb2
    have HX := Lib.hid hx; have HB := Lib.hid hb
    obtain ⟨s0, s1, s2, s3, s4⟩ := hx.cells
    have s5 := hx.frozen
    clear hx hb hb2
    go_wp2_with fail
    have hfin := ((((HX.out.set0 (.int .i64 6)).set1 (.int .i64 0)).set2 (.string S)).set3 (.slice none 0 0)).set4 (.slice none 0 0)
    clear s0 s1 s2 s3 s4 s5
    exact ret_cell5 rfl rfl hfin.load rfl ⟨by rw [HS.out]; rfl, (((((HB.out).setCell (by exact le0) _).setCell (by exact le0) _).setCell (by exact le0) _).setCell (by exact le0) _).setCell (by exact le0) _⟩
end Go.Proofs.YtlemlgllkcgigaaGreatDoor

namespace Go.Proofs.YtlemlgllkcgigaaGreatDoor
open Go.RowKit

theorem allF_at : ∀ {l : List F} {i : Nat}, allF l = true → ∀ (h : i < l.length), allT (l[i]).type = true
  | [], _, _, h => by simp at h
  | f :: r, 0, h, _ => by simp only [allF, Bool.and_eq_true] at h; rw [← allF1_eq]; exact h.1
  | f :: r, i + 1, h, hi => by simp only [allF, Bool.and_eq_true] at h; exact allF_at h.2 (by simpa using hi)
/-- The closure's own variable. -/
def LeastFn (c : Nat) : Value := .func (.func 54) #[] #[.pointer (some ⟨c, 0, none⟩)]
theorem own_leaf {w : World} {W0 : Nat} (kind num : Int) (str : ByteArray) : OwnIn w W0 (.mk kind num str [] []) (.int .i64 kind) (.int .i64 num) (.string str) (.slice none 0 0) (.slice none 0 0) [] := by
  simp only [OwnIn]
  exact ⟨trivial, trivial, trivial, World.ownsRow_nil _ _ _ _, [], [], World.ownsRow_nil _ _ _ _, by simp [OwnKids], by simp [blk, Value.ownBlock]⟩
set_option maxHeartbeats 4000000 in
set_option maxRecDepth 100000 in
theorem least_leaf {t : T} {v : Value} {w : World} {B c : Nat} (hk : 4 ≤ t.kind) (hok : LeastOk t) (hB : B ≤ w.heap.size) (ht : TypeV w B t v) :
    Calls Tryz.prog 54 #[v, .pointer (some ⟨c, 0, none⟩)] w (MadeDoc w.heap.size w t.least) := by
  have hf0 := hok.fs (by omega)
  have ho0 := hok.of0 (by omega) (by omega)
  have hl : t.least = .mk (leastKind t.kind) (leastNum t.kind t.lo t.hi) (leastStr t.kind t.lo t.names) [] [] := by
    rw [least_eq, hf0, ho0]
    simp [keysF, keysO, leastF, leastO]
  have HL := Lib.hid hl; have HOK := Lib.hid hok
  have HV := Lib.hid ht
  obtain ⟨v0, v1, v2, v3, v4, v5, rfl, hd⟩ := ht
  obtain ⟨A3, c3, A4, c4, A5, c5, rfl, rfl, rfl, rfl, rfl, rfl⟩ := hd.forms
  clear hd hl hok
  rw [hf0, ho0]
  rw [hf0, ho0] at HV
  clear hf0 ho0
  go_enter Tryz.func54, Tryz.ntmps54
  go_wp2_with fail
  refine (root_any HOK.out (B := B) (by simp; omega) (HV.out.keep (Nat.le_refl _) fun p hp => (World.cell?_alloc_lt (w.alloc _) _ p (by simp; omega)).trans (World.cell?_alloc_lt w _ p (by omega)))).mono ?_
  rintro e w1 ⟨rfl, hb1⟩
  generalize leastKind t.kind = kd at *
  generalize leastNum t.kind t.lo t.hi = nm at *
  generalize leastStr t.kind t.lo t.names = st at *
  have hz1 := hb1.size
  simp only [World.size_alloc] at hz1
  have HT : Hid (Box6 w1 w.heap.size (.int .i64 t.kind) (.int .i64 t.lo) (.int .i64 t.hi) (.slice A3 t.names.length c3) (.slice A4 0 c4) (.slice A5 0 c5)) := ((Box6.new w _ _ _ _ _ _).alloc _).same (hb1.block _ (by simp; omega))
  have HR : Hid (Box5 w1 (w.heap.size + 1) (.int .i64 0) (.int .i64 0) (.string ⟨#[]⟩) (.slice none 0 0) (.slice none 0 0)) := (Box5.new' (w := w.alloc (.cells #[.int .i64 t.kind, .int .i64 t.lo, .int .i64 t.hi, .slice A3 t.names.length c3, .slice A4 0 c4, .slice A5 0 c5] 26)) (by simp) _ _ _ _ _).same (hb1.block _ (by simp))
  have HB : Hid (Below w.heap.size w w1) := (((Below.refl _ _).alloc (Nat.le_refl _) _).alloc (by simp) _).trans (hb1.mono (by simp; omega))
  clear hb1
  obtain ⟨t0, t1, t2, t3, t4, t5⟩ := HT.out.cells
  have htl := HT.out.lt; have hrl := HR.out.lt
  go_wp2_with fail
  obtain ⟨w2, hw2⟩ : ∃ w2, w2 = w1.alloc (.cells #[.int .i64 kd, .int .i64 nm, .string st, .slice none 0 0, .slice none 0 0] 29) := ⟨_, rfl⟩
  have HT2 : Hid (Box6 w2 w.heap.size (.int .i64 t.kind) (.int .i64 t.lo) (.int .i64 t.hi) (.slice A3 t.names.length c3) (.slice A4 0 c4) (.slice A5 0 c5)) := by rw [hw2]; exact HT.out.alloc _
  have HR2 : Hid (Box5 w2 (w.heap.size + 1) (.int .i64 0) (.int .i64 0) (.string ⟨#[]⟩) (.slice none 0 0) (.slice none 0 0)) := by rw [hw2]; exact HR.out.alloc _
  have HD2 : Hid (Box5 w2 w1.heap.size (.int .i64 kd) (.int .i64 nm) (.string st) (.slice none 0 0) (.slice none 0 0)) := by rw [hw2]; exact Box5.new w1 _ _ _ _ _
  have HB2 : Hid (Below w.heap.size w w2) := by rw [hw2]; exact HB.out.alloc HB.out.size _
  rw [← hw2]
  clear hw2 t0 t1 t2 t3 t4 t5
  obtain ⟨t0, t1, t2, t3, t4, t5⟩ := HT2.out.cells
  obtain ⟨r0, r1, r2, r3, r4⟩ := HR2.out.cells
  obtain ⟨d0, d1, d2, d3, d4⟩ := HD2.out.cells
  have r5 := HR2.out.frozen
  refine wp_loop_rounds 1 ?_
  rw [rounds_succ]
  go_wp2_with fail
  refine wp_loop_rounds 1 ?_
  rw [rounds_succ]
  go_wp2_with fail
  have hfin := ((((HR2.out.set0 (.int .i64 kd)).set1 (.int .i64 nm)).set2 (.string st)).set3 (.slice none 0 0)).set4 (.slice none 0 0)
  clear r0 r1 r2 r3 r4 r5
  have le0 : w.heap.size ≤ w.heap.size + 1 := by omega
  refine ret_cell5 rfl rfl hfin.load rfl ⟨_, _, _, _, _, [], rfl, ?_, by simp, ((((HB2.out.setCell (by exact le0) _).setCell (by exact le0) _).setCell (by exact le0) _).setCell (by exact le0) _).setCell (by exact le0) _⟩
  rw [HL.out]
  exact own_leaf _ _ _
end Go.Proofs.YtlemlgllkcgigaaGreatDoor
