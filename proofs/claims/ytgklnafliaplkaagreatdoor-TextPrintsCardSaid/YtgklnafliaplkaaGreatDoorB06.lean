/-
  strings.Builder in a program that recovers: what copyCheck, WriteByte and WriteString do (there its check of a copied builder is cut, so no laid contract fits).
  text.quote, text.Quote: the quoted text of bytes.
-/
import Derived.Test.YtgklnafliaplkaaGreatDoorB05
import Derived.Test.YtgklnafliaplkaaGreatDoorB01
import Derived.Lib.Hide
import Derived.Lib.OthersKept
import Derived.Lib.FrozenHead2
import Derived.Deep.Cut
import Derived.Deep.CutRange
namespace Go.Proofs.YtgklnafliaplkaaGreatDoor
open Go.RowKit

theorem infoB : (Tryz.prog.info? 5).map (fun i => (i.zero, i.size, i.bytes)) = some (some (.int .u8 0), 1, 1) := by kernel_rfl
theorem sizeBldr : (Tryz.prog.info? 56).map (·.size) = some 2 := by kernel_rfl
theorem liesBldr : liesAt Tryz.prog Tryz.prog.depth 56 (2 / Tryz.prog.cellsOf 56) 0 56 1 = true := by kernel_rfl
/-- The builder at block b holds these bytes. -/
def Bld (B b : Nat) (l : List UInt8) (w : World) : Prop := Lib.IsBuilderF 56 5 B b (Lib.byteCells l) w
/-- .. and was written to; what else stands: all below B, and all but the builder and rows of bytes. -/
def BldTo (B b : Nat) (l : List UInt8) (w w' : World) : Prop := Lib.BuilderAtF 56 5 B b (.pointer (some ⟨b, 0, none⟩)) (Lib.byteCells l) w' ∧ Below B w w' ∧ Lib.OthersKept 5 (some b) w w'
theorem BldTo.bld {B b : Nat} {l : List UInt8} {w w' : World} (h : BldTo B b l w w') : Bld B b l w' := .inr h.1
theorem BldTo.trans {B b : Nat} {l l' : List UInt8} {w w1 w2 : World} (h : BldTo B b l w w1) (h' : BldTo B b l' w1 w2) : BldTo B b l' w w2 := ⟨h'.1, h.2.1.trans h'.2.1, h.2.2.trans h'.2.2⟩
set_option maxHeartbeats 2000000 in
set_option maxRecDepth 100000 in
theorem bcheck_any {B b : Nat} {l : List UInt8} {w : World} (h : Bld B b l w) :
    Calls Tryz.prog 68 #[.pointer (some ⟨b, 0, none⟩)] w fun e w' => e = .returned (.tuple #[]) ∧ BldTo B b l w w' := by
  obtain ⟨j, hj, hjs⟩ := Option.map_eq_some_iff.1 sizeBldr
  rcases h with h | h
  · have h0 := h.cell0
    have hsh := h.shape
    have hfz := h.frozen0
    go_enter Tryz.func68, Tryz.ntmps68
    go_wp2_with fail
    rw [Lib.run_to_unsafe w ⟨b, 0, none⟩ Tryz.underlying54 Tryz.underlying97 hj (by rw [hjs]; decide) hsh (Nat.zero_lt_succ 1)]
    simp only [Result.andThen]
    rw [Oper.upon_value]
    go_wp2_with fail
    rw [run_callFunc_extern Tryz.func89 (by kernel_rfl) (by kernel_rfl) (by kernel_rfl) (e := Extern.AbiNoEscape.same) (by kernel_rfl)]
    rw [Lib.run_noEscape]
    simp only [Result.andThen]
    rw [Oper.upon_value]
    go_wp2_with fail
    rw [Lib.run_from_unsafe w ⟨b, 0, none⟩ Tryz.underlying97 Tryz.underlying54 hj hsh liesBldr]
    simp only [Result.andThen]
    rw [Oper.upon_value]
    go_wp2_with fail
    go_end0
    exact ⟨rfl, h.used _, (Below.refl B w).setCell (p := ⟨b, 0, none⟩) h.1 _, (Lib.OthersKept.refl _ _ w).setCell ⟨b, 0, none⟩ rfl _⟩
  · have h0 := h.cell0
    go_enter Tryz.func68, Tryz.ntmps68
    go_wp2_with fail
    rw [Lib.run_neq_ptr_same w _ Tryz.underlying54 hj]
    go_wp2_with fail
    go_end0
    exact ⟨rfl, h, Below.refl B _, Lib.OthersKept.refl _ _ _⟩
set_option maxHeartbeats 2000000 in
set_option maxRecDepth 100000 in
theorem bbyte_any {B b : Nat} {l : List UInt8} {w : World} (c : UInt8) (h : Bld B b l w) (hlen : l.length + 1 ≤ 140737488355328) (hBw : B ≤ w.heap.size) :
    Calls Tryz.prog 43 #[.pointer (some ⟨b, 0, none⟩), .int .u8 c.toNat] w fun e w' => e = .returned .nilIface ∧ BldTo B b (l ++ [c]) w w' := by
  obtain ⟨i0, hi, hz0, hz1, hz2⟩ := info_parts infoB
  have HC := Lib.hid (bcheck_any h)
  clear h
  go_enter Tryz.func43, Tryz.ntmps43
  go_wp2_with fail
  refine HC.out.mono ?_
  rintro e w1 ⟨rfl, h1, hb1, hk1⟩
  have hlt := h1.lt
  obtain ⟨hB, v, hbk, hown, hne⟩ := h1
  have c0 : w1.cell? ⟨b, 0, none⟩ = some (.pointer (some ⟨b, 0, none⟩)) := by rw [Lib.cell_of_heap hbk]; rfl
  have c1 : w1.cell? ⟨b, 1, none⟩ = some v := by rw [Lib.cell_of_heap hbk]; rfl
  have hs1 := hb1.size
  rw [Lib.byteCells_length] at hown
  go_wp2_with (at_builtin; refine wpList_append_ownF _ rfl _ _ 41 rfl B 5 i0 (.int .u8 0) 1 1 Tryz.underlying41 hi hz0 hz1 hz2 rfl (by decide) v l.length (Lib.byteCells l) rfl (hown.alloc _) ⟨w1.heap.size, 0, none⟩ 1 1 [.int .u8 c.toNat] rfl rfl ?c1 ?c2 ?c3 ?c4 ?c5 ?_)
  case c1 =>
    intro j u hj
    match j, hj with
    | 0, hj => simp at hj; subst hj; simp [Addr.add]
  case c2 => intro u hu; simp at hu; subst hu; rfl
  case c3 => unfold maxLen; omega
  case c4 => omega
  case c5 => simp; omega
  intro v' w2 hown2 hgrow _
  have hb2 : w2.heap[b]? = some (.cells #[.pointer (some ⟨b, 0, none⟩), v] 56 (0, 0)) := by
    rw [hgrow.block b (by simp; omega) (fun e => hne e.symm), Lib.alloc_old w1 _ b hlt]
    exact hbk
  have d0 : w2.cell? ⟨b, 0, none⟩ = some (.pointer (some ⟨b, 0, none⟩)) := by rw [Lib.cell_of_heap hb2]; rfl
  have d1 : w2.cell? ⟨b, 1, none⟩ = some v := by rw [Lib.cell_of_heap hb2]; rfl
  have f1 : w2.frozen? ⟨b, 1, none⟩ = false := Lib.frozen_of_heap hb2 1
  obtain ⟨g, cap, rfl⟩ : ∃ g cap, v' = .slice (some ⟨g, 0, none⟩) (l.length + 1) cap := by
    rcases hown2.2 with ⟨_, h0⟩ | ⟨g, cap, cur, fz, hv, _⟩
    · omega
    · exact ⟨g, cap, hv⟩
  go_wp2_with fail
  go_ret
  refine ⟨rfl, ?_, ?_, ((hk1.alloc _).grown hgrow (Lib.ownsRowF_kind (hown.alloc _))).setCell ⟨b, 1, none⟩ rfl _⟩
  · rw [Lib.byteCells_append]
    exact Lib.BuilderAtF.put (T := 56) (e := 5) hB hb2 (bs' := Lib.byteCells l ++ Lib.byteCells [c]) (by rw [List.length_append, Lib.byteCells_length, Lib.byteCells_length]; exact hown2) (by decide)
  · exact ((hb1.alloc (by omega) _).grown hgrow (by simp; omega) (fun k hk => (hown.lt k hk).1)).setCell (p := ⟨b, 1, none⟩) hB _
set_option maxHeartbeats 2000000 in
set_option maxRecDepth 100000 in
theorem bstring_any {B b : Nat} {l : List UInt8} {w : World} (s : ByteArray) (h : Bld B b l w) (hlen : l.length + s.size ≤ 140737488355328) (hBw : B ≤ w.heap.size) :
    Calls Tryz.prog 51 #[.pointer (some ⟨b, 0, none⟩), .string s] w fun e w' => e = .returned (.tuple #[.int .i64 s.size, .nilIface]) ∧ BldTo B b (l ++ s.data.toList) w w' := by
  obtain ⟨i0, hi, hz0, hz1, hz2⟩ := info_parts infoB
  have HC := Lib.hid (bcheck_any h)
  clear h
  go_enter Tryz.func51, Tryz.ntmps51
  go_wp2_with fail
  refine HC.out.mono ?_
  rintro e w1 ⟨rfl, h1, hb1, hk1⟩
  have hlt := h1.lt
  obtain ⟨hB, v, hbk, hown, hne⟩ := h1
  have c0 : w1.cell? ⟨b, 0, none⟩ = some (.pointer (some ⟨b, 0, none⟩)) := by rw [Lib.cell_of_heap hbk]; rfl
  have c1 : w1.cell? ⟨b, 1, none⟩ = some v := by rw [Lib.cell_of_heap hbk]; rfl
  have hs1 := hb1.size
  rw [Lib.byteCells_length] at hown
  go_wp2_with (at_builtin; refine Lib.wpList_append_own_stringF _ rfl _ _ 41 9 rfl B 5 i0 Tryz.underlying41 Tryz.underlying9 hi hz0 hz1 hz2 v l.length (Lib.byteCells l) rfl hown s rfl ?c3 ?c4 ?c5 ?_)
  case c3 => unfold maxLen; omega
  case c4 => omega
  case c5 => omega
  intro v' w2 hown2 hgrow _
  have hb2 : w2.heap[b]? = some (.cells #[.pointer (some ⟨b, 0, none⟩), v] 56 (0, 0)) := by
    rw [hgrow.block b hlt (fun e => hne e.symm)]
    exact hbk
  have d0 : w2.cell? ⟨b, 0, none⟩ = some (.pointer (some ⟨b, 0, none⟩)) := by rw [Lib.cell_of_heap hb2]; rfl
  have d1 : w2.cell? ⟨b, 1, none⟩ = some v := by rw [Lib.cell_of_heap hb2]; rfl
  have f1 : w2.frozen? ⟨b, 1, none⟩ = false := Lib.frozen_of_heap hb2 1
  obtain ⟨ao, n', cap, rfl⟩ : ∃ ao n' cap, v' = .slice ao n' cap := by
    rcases hown2.2 with ⟨hv, _⟩ | ⟨g, cap, cur, fz, hv, _⟩
    · exact ⟨_, _, _, hv⟩
    · exact ⟨_, _, _, hv⟩
  go_wp2_with fail
  go_ret2
  refine ⟨rfl, ?_, ?_, (hk1.grown hgrow (Lib.ownsRowF_kind hown)).setCell ⟨b, 1, none⟩ rfl _⟩
  · rw [Lib.byteCells_append]
    exact Lib.BuilderAtF.put (T := 56) (e := 5) hB hb2 (bs' := Lib.byteCells l ++ Lib.byteCells s.data.toList) (by rw [List.length_append, Lib.byteCells_length, Lib.byteCells_length]; exact hown2) (by decide)
  · exact (hb1.grown hgrow (by omega) (fun k hk => (hown.lt k hk).1)).setCell (p := ⟨b, 1, none⟩) hB _
end Go.Proofs.YtgklnafliaplkaaGreatDoor
namespace Go.Proofs.YtgklnafliaplkaaGreatDoor
open Go.RowKit

def plainB (c : UInt8) : Bool := decide (32 ≤ c.toNat) && decide (c.toNat ≤ 126)
theorem tx_ret_bool {a b : Bool} (h : a = b) : Ending.returned (.bool a) = .returned (.bool b) := by rw [h]
set_option maxHeartbeats 400000 in
theorem plain_any (c : UInt8) (w : World) : Calls Tryz.prog 56 #[.int .u8 (c.toNat : Int)] w fun e w' => e = .returned (.bool (plainB c)) ∧ w = w' := by
  go_enter Tryz.func56, Tryz.ntmps56
  go_wp2
  all_goals (go_ret; refine ⟨tx_ret_bool ?_, rfl⟩; rw [Bool.eq_iff_iff]; simp [plainB]; omega)
theorem take_byte {s : ByteArray} {k : Nat} (h : k < s.size) : s.data.toList.take (k + 1) = s.data.toList.take k ++ [s[k]] := by
  rw [List.take_succ_eq_append_getElem (by simpa using h)]; rfl
theorem hex_at : ∀ n : Fin 16, (⟨#[48, 49, 50, 51, 52, 53, 54, 55, 56, 57, 97, 98, 99, 100, 101, 102]⟩ : ByteArray)[n.val]'(n.isLt) = UInt8.ofNat (hexD n.val) := by decide
set_option maxHeartbeats 4000000 in
set_option maxRecDepth 100000 in
theorem quote_any {B b : Nat} {l : List UInt8} {w : World} (s : ByteArray) (h : Bld B b l w) (hlen : l.length + 4 * s.size + 2 ≤ 140737488355328) (hBw : B ≤ w.heap.size) :
    Calls Tryz.prog 32 #[.pointer (some ⟨b, 0, none⟩), .string s] w fun e w' => e = .returned (.tuple #[]) ∧ BldTo B b (l ++ quoteL s.data.toList) w w' := by
  have HQ := Lib.hid (bbyte_any 34 h (by omega) hBw)
  clear h
  go_enter Tryz.func32, Tryz.ntmps32
  go_wp2_with fail
  refine HQ.out.mono ?_
  rintro e w1 ⟨rfl, h1⟩
  have H1 := Lib.hid h1
  clear h1
  go_wp2_with fail
  go_loopw [10] (fun i wr => ∃ k : Nat, k ≤ s.size ∧ i = .int .i64 k ∧ Hid (BldTo B b (l ++ 34 :: quoteI (s.data.toList.take k)) w wr)) (fun i _ => s.size - (intOf i).toNat)
  case atStart => exact ⟨0, Nat.zero_le _, rfl, Lib.hid (by simpa [quoteI] using H1.out)⟩
  case round =>
    obtain ⟨k, hk0, rfl, HB⟩ := hrel
    have hql : (l ++ 34 :: quoteI (s.data.toList.take k)).length ≤ l.length + 1 + 4 * k := by
      have h1 := quoteI_len (s.data.toList.take k)
      have h2 := List.length_take_le k s.data.toList
      simp only [List.length_append, List.length_cons]; omega
    have hBr : B ≤ wr.heap.size := Nat.le_trans hBw HB.out.2.1.size
    by_cases hlt : k < s.size
    · have hik0 : (0 : Int) ≤ (k : Int) := by omega
      have hik1 : (k : Int) < (s.size : Int) := by omega
      obtain ⟨c, hc⟩ : ∃ c, c = s[k] := ⟨_, rfl⟩
      have HT := Lib.hid (take_byte hlt)
      rw [← hc] at HT
      have HSUC : Hid (l ++ 34 :: quoteI (s.data.toList.take (k + 1)) = (l ++ 34 :: quoteI (s.data.toList.take k)) ++ quoteC c) := Lib.hid (by rw [HT.out, quoteI_snoc]; simp)
      have HX := Lib.hid hc
      go_upto_region 8 with fail
      rw [← hc]
      clear hc HT
      go_cut [28] from 29 to 34 (fun s28 wx => s28 = .bool (decide (c.toNat = 34 ∨ c.toNat = 92)) ∧ wx = wr)
      case first =>
        by_cases h34 : c.toNat = 34
        · have e1 : ((c.toNat : Int) == 34) = true := by simp; omega
          go_wp2_with fail
          go_meet
          exact ⟨by simp [h34], rfl⟩
        · have e1 : ((c.toNat : Int) == 34) = false := by simp; omega
          by_cases h92 : c.toNat = 92
          · have e2 : ((c.toNat : Int) == 92) = true := by simp; omega
            go_wp2_with fail
            go_meet
            exact ⟨by simp [h92], rfl⟩
          · have e2 : ((c.toNat : Int) == 92) = false := by simp; omega
            go_wp2_with fail
            go_meet
            exact ⟨by simp [h34, h92], rfl⟩
      case rest =>
        obtain ⟨rfl, rfl⟩ := hcut
        obtain ⟨X, hX⟩ : ∃ X, X = l ++ 34 :: quoteI (s.data.toList.take k) := ⟨_, rfl⟩
        rw [← hX] at HB hql HSUC
        clear hX
        by_cases hq : c.toNat = 34 ∨ c.toNat = 92
        · rw [decide_eq_true hq]
          have HE : Hid (X ++ quoteC c = (X ++ [92]) ++ [c]) := Lib.hid (by unfold quoteC; rw [if_pos hq]; simp)
          clear hq
          go_wp2_with fail
          refine (bbyte_any 92 HB.out.bld (by omega) hBr).mono ?_
          rintro e w2 ⟨rfl, h2⟩
          have H2 := Lib.hid (HB.out.trans h2)
          have hB2 : B ≤ w2.heap.size := Nat.le_trans hBr h2.2.1.size
          clear h2
          go_wp2_with fail
          refine (bbyte_any c H2.out.bld (by simp; omega) hB2).mono ?_
          rintro e w3 ⟨rfl, h3⟩
          have H3 := Lib.hid (H2.out.trans h3)
          clear h3
          go_wp2_with fail
          refine ⟨⟨k + 1, by omega, by go_num, Lib.hid (by rw [HSUC.out, HE.out]; exact H3.out)⟩, by simp [intOf]; omega⟩
        · rw [decide_eq_false hq]
          go_wp2_with fail
          refine (plain_any c _).mono ?_
          rintro e w2 ⟨rfl, rfl⟩
          cases hp : plainB c
          · have HE : Hid (X ++ quoteC c = ((X ++ [92, 120]) ++ [UInt8.ofNat (hexD (c.toNat / 16))]) ++ [UInt8.ofNat (hexD (c.toNat % 16))]) := Lib.hid (by
              unfold quoteC
              rw [if_neg hq, if_neg (by intro h; simp [plainB, h.1, h.2] at hp)]
              simp)
            clear hq hp
            go_wp2_with fail
            refine (bstring_any ⟨#[92, 120]⟩ HB.out.bld (by show _ + 2 ≤ _; omega) hBr).mono ?_
            rintro e w2 ⟨rfl, h2⟩
            have H2 : Hid (BldTo B b (X ++ [92, 120]) w w2) := Lib.hid (HB.out.trans h2)
            have hB2 : B ≤ w2.heap.size := Nat.le_trans hBr h2.2.1.size
            clear h2
            have hc8 : c.toNat < 256 := c.toNat_lt
            have hd0 : (0 : Int) ≤ (c.toNat : Int) / 16 := by omega
            have hd1 : (c.toNat : Int) / 16 < 16 := by omega
            have hd2 : c.toNat / 16 < 16 := by omega
            have hm2 : c.toNat % 16 < 16 := by omega
            have hm0 : (0 : Int) ≤ (c.toNat : Int) % 16 := by omega
            have hm1 : (c.toNat : Int) % 16 < 16 := by omega
            go_wp2_with fail
            have e16 := hex_at ⟨c.toNat / 16, hd2⟩
            simp only at e16
            rw [e16]
            refine (bbyte_any _ H2.out.bld (by simp; omega) hB2).mono ?_
            rintro e w3 ⟨rfl, h3⟩
            have H3 := Lib.hid (H2.out.trans h3)
            have hB3 : B ≤ w3.heap.size := Nat.le_trans hB2 h3.2.1.size
            clear h3 e16
            go_wp2_with fail
            have em := hex_at ⟨c.toNat % 16, hm2⟩
            simp only at em
            rw [em]
            refine (bbyte_any _ H3.out.bld (by simp; omega) hB3).mono ?_
            rintro e w4 ⟨rfl, h4⟩
            have H4 := Lib.hid (H3.out.trans h4)
            clear h4 em
            go_wp2_with fail
            refine ⟨⟨k + 1, by omega, by go_num, Lib.hid (by rw [HSUC.out, HE.out]; exact H4.out)⟩, by simp [intOf]; omega⟩
          · have HE : Hid (X ++ quoteC c = X ++ [c]) := Lib.hid (by
              unfold quoteC
              rw [if_neg hq, if_pos (by simpa [plainB] using hp)])
            clear hq hp
            go_wp2_with fail
            refine (bbyte_any c HB.out.bld (by omega) hBr).mono ?_
            rintro e w3 ⟨rfl, h3⟩
            have H3 := Lib.hid (HB.out.trans h3)
            clear h3
            go_wp2_with fail
            refine ⟨⟨k + 1, by omega, by go_num, Lib.hid (by rw [HSUC.out, HE.out]; exact H3.out)⟩, by simp [intOf]; omega⟩
    · have hkl : k = s.size := by omega
      subst hkl
      have hall : s.data.toList.take s.size = s.data.toList := List.take_of_length_le (by simp)
      rw [hall] at HB hql
      go_wp2_with fail
      refine (bbyte_any 34 HB.out.bld (by omega) hBr).mono ?_
      rintro e w3 ⟨rfl, h3⟩
      have H3 := Lib.hid (HB.out.trans h3)
      clear h3
      go_wp2_with fail
      go_end0
      exact ⟨rfl, by have h := H3.out; simpa [quoteL] using h⟩
/-- A builder that was just made. -/
theorem Bld.new (w : World) : Bld w.heap.size w.heap.size [] (w.alloc (.cells #[.pointer none, .slice none 0 0] 56)) :=
  .inl ⟨Nat.le_refl _, _, heap_alloc_new w _, World.ownsRowF_of (World.ownsRow_nil _ _ _ _), by simp [Value.ownBlock]⟩
set_option maxHeartbeats 2000000 in
set_option maxRecDepth 100000 in
theorem Quote_any (s : ByteArray) (w : World) (hs : s.size ≤ 1000000) :
    Calls Tryz.prog 15 #[.string s] w fun e w' => e = .returned (.string ⟨(quoteL s.data.toList).toArray⟩) ∧ Below w.heap.size w w' := by
  have HQ := Lib.hid (quote_any s (Bld.new w) (by simp; omega) (by simp))
  go_enter Tryz.func15, Tryz.ntmps15
  go_wp2_with fail
  refine HQ.out.mono ?_
  rintro e w1 ⟨rfl, h1⟩
  rw [List.nil_append] at h1
  have hb1 : Below w.heap.size w w1 := ((Below.refl _ _).alloc (Nat.le_refl _) _).trans h1.2.1
  have HS := Lib.hid (Tryz.Builder_String_any_f w.heap.size w.heap.size (quoteL s.data.toList) w1 h1.bld hb1.size)
  have HB := Lib.hid hb1
  clear h1 hb1
  go_wp2_with fail
  refine HS.out.mono ?_
  rintro e w2 ⟨rfl, h2⟩
  go_wp2_with fail
  go_ret
  exact ⟨rfl, HB.out.trans h2.2⟩
end Go.Proofs.YtgklnafliaplkaaGreatDoor
