/-
  The document's own Size and Depth of types: as the program's.
-/
import Derived.Test.YtcbbocnblgpbbaaDoorTypeS
namespace Go.Proofs.YtcbbocnblgpbbaaDoor
open Go.RowKit

theorem FieldsV.kid {w wr : World} {B c k : Nat} {A : Option Addr} {l : List F} (h : FieldsV w B (.slice A l.length c) l) (hb : Below w.heap.size w wr) (hB : B ≤ w.heap.size) (hk : k < l.length) :
    ∃ b off, A = some ⟨b, off, none⟩ ∧ b < wr.heap.size ∧ wr.cell? ⟨b, off + k * 8, none⟩ = some (.string (l[k]).name) ∧ wr.cell? ⟨b, off + k * 8 + 1, none⟩ = some (.bool (l[k]).opt) ∧
      ∃ X3 b3 X4 b4 X5 b5, wr.cell? ⟨b, off + k * 8 + 2, none⟩ = some (.int .i64 (l[k]).type.kind) ∧ wr.cell? ⟨b, off + k * 8 + 2 + 1, none⟩ = some (.int .i64 (l[k]).type.lo) ∧ wr.cell? ⟨b, off + k * 8 + 2 + 2, none⟩ = some (.int .i64 (l[k]).type.hi) ∧
        wr.cell? ⟨b, off + k * 8 + 2 + 3, none⟩ = some (.slice X3 (l[k]).type.names.length b3) ∧ wr.cell? ⟨b, off + k * 8 + 2 + 4, none⟩ = some (.slice X4 (l[k]).type.fields.length b4) ∧ wr.cell? ⟨b, off + k * 8 + 2 + 5, none⟩ = some (.slice X5 (l[k]).type.of.length b5) ∧
        TypeIn wr B (l[k]).type (.int .i64 (l[k]).type.kind) (.int .i64 (l[k]).type.lo) (.int .i64 (l[k]).type.hi) (.slice X3 (l[k]).type.names.length b3) (.slice X4 (l[k]).type.fields.length b4) (.slice X5 (l[k]).type.of.length b5) := by
  obtain ⟨A', cc, e, _, hc⟩ := h
  injection e with e1 _ e3
  subst e1
  obtain ⟨b, off, rfl, hbb, hc⟩ := hc (by omega)
  have hat := FieldsIn.at_ hc k hk
  rw [Nat.zero_add] at hat
  have kp : ∀ p : Addr, p.block < B → wr.cell? p = w.cell? p := fun p hp => hb.cell (by omega)
  obtain ⟨u0, u1, u2, u3, u4, u5, s0, s1, s2, s3, s4, s5, hi⟩ := hat.2.2.keep (Nat.le_refl _) kp hbb
  obtain ⟨X3, b3, X4, b4, X5, b5, rfl, rfl, rfl, rfl, rfl, rfl⟩ := hi.forms
  exact ⟨b, off, rfl, by have := hb.size; omega, (kp ⟨b, _, none⟩ hbb).trans hat.1, (kp ⟨b, _, none⟩ hbb).trans hat.2.1, X3, b3, X4, b4, X5, b5, s0, s1, s2, s3, s4, s5, hi⟩
theorem TypesV.kid {w wr : World} {B c k : Nat} {A : Option Addr} {l : List T} (h : TypesV w B (.slice A l.length c) l) (hb : Below w.heap.size w wr) (hB : B ≤ w.heap.size) (hk : k < l.length) :
    ∃ b off, A = some ⟨b, off, none⟩ ∧ b < wr.heap.size ∧
      ∃ X3 b3 X4 b4 X5 b5, wr.cell? ⟨b, off + k * 6, none⟩ = some (.int .i64 (l[k]).kind) ∧ wr.cell? ⟨b, off + k * 6 + 1, none⟩ = some (.int .i64 (l[k]).lo) ∧ wr.cell? ⟨b, off + k * 6 + 2, none⟩ = some (.int .i64 (l[k]).hi) ∧
        wr.cell? ⟨b, off + k * 6 + 3, none⟩ = some (.slice X3 (l[k]).names.length b3) ∧ wr.cell? ⟨b, off + k * 6 + 4, none⟩ = some (.slice X4 (l[k]).fields.length b4) ∧ wr.cell? ⟨b, off + k * 6 + 5, none⟩ = some (.slice X5 (l[k]).of.length b5) ∧
        TypeIn wr B (l[k]) (.int .i64 (l[k]).kind) (.int .i64 (l[k]).lo) (.int .i64 (l[k]).hi) (.slice X3 (l[k]).names.length b3) (.slice X4 (l[k]).fields.length b4) (.slice X5 (l[k]).of.length b5) := by
  obtain ⟨A', cc, e, _, hc⟩ := h
  injection e with e1 _ e3
  subst e1
  obtain ⟨b, off, rfl, hbb, hc⟩ := hc (by omega)
  have hat := TypesIn.at_ hc k hk
  rw [Nat.zero_add] at hat
  have kp : ∀ p : Addr, p.block < B → wr.cell? p = w.cell? p := fun p hp => hb.cell (by omega)
  obtain ⟨u0, u1, u2, u3, u4, u5, s0, s1, s2, s3, s4, s5, hi⟩ := hat.keep (Nat.le_refl _) kp hbb
  obtain ⟨X3, b3, X4, b4, X5, b5, rfl, rfl, rfl, rfl, rfl, rfl⟩ := hi.forms
  exact ⟨b, off, rfl, by have := hb.size; omega, X3, b3, X4, b4, X5, b5, s0, s1, s2, s3, s4, s5, hi⟩

set_option maxHeartbeats 4000000 in
set_option maxRecDepth 100000 in
theorem rtsize_any (m : Nat) : ∀ (t : T) (v : Value) (w : World) (B : Nat), t.depth ≤ m → t.size ≤ 10000 → B ≤ w.heap.size → TypeV w B t v →
    Calls Tryd.prog 17 #[v] w fun e w' => e = .returned (.int .i64 t.size) ∧ Below w.heap.size w w' := by
  induction m with
  | zero => intro t; intro _ _ _ h; have := t.depth_pos; omega
  | succ m ih =>
    intro t v w B hm hs hB ht
    obtain ⟨v0, v1, v2, v3, v4, v5, rfl, hin⟩ := ht
    have IH := Lib.hid ih; have HIN := Lib.hid hin
    obtain ⟨A3, d3, A4, d4, A5, d5, rfl, rfl, rfl, rfl, rfl, rfl⟩ := hin.forms
    have HFV := Lib.hid hin.fields_; have HOV := Lib.hid hin.of_
    clear ih hin
    have hsz := T.size_eq t
    have hl1 := T.len_le_sizes (t.fields.map F.type)
    have hl2 := T.len_le_sizes t.of
    rw [List.length_map] at hl1
    go_enter Tryd.func17, Tryd.ntmps17
    go_wp2_with fail
    obtain ⟨W2, hW2⟩ : ∃ W2, W2 = w.alloc (.cells #[.int .i64 t.kind, .int .i64 t.lo, .int .i64 t.hi, .slice A3 t.names.length d3, .slice A4 t.fields.length d4, .slice A5 t.of.length d5] 26) := ⟨_, rfl⟩
    have HBX : Hid (Box6 W2 w.heap.size (.int .i64 t.kind) (.int .i64 t.lo) (.int .i64 t.hi) (.slice A3 t.names.length d3) (.slice A4 t.fields.length d4) (.slice A5 t.of.length d5)) := by rw [hW2]; exact Box6.new w _ _ _ _ _ _
    have HBL : Hid (Below w.heap.size w W2) := by rw [hW2]; exact (Below.refl _ _).alloc (Nat.le_refl _) _
    rw [← hW2]
    clear hW2
    go_loopw [3, 4] (fun n i wr => ∃ k : Nat, k ≤ t.fields.length ∧ i = .int .i64 k ∧ n = .int .i64 ((T.sizes ((t.fields.map F.type).take k) + 1 : Nat) : Int) ∧ Below w.heap.size w wr ∧ Box6 wr w.heap.size (.int .i64 t.kind) (.int .i64 t.lo) (.int .i64 t.hi) (.slice A3 t.names.length d3) (.slice A4 t.fields.length d4) (.slice A5 t.of.length d5)) (fun _ i _ => t.fields.length - (intOf i).toNat)
    case atStart => exact ⟨0, Nat.zero_le _, rfl, by simp [T.sizes], HBL.out, HBX.out⟩
    case round =>
      obtain ⟨k, hk, rfl, rfl, hb, hbx⟩ := hrel
      have HB := Lib.hid hb; have HX := Lib.hid hbx
      obtain ⟨q0, q1, q2, q3, q4, q5⟩ := hbx.cells
      have hzr := hb.size
      have hxl := hbx.lt
      clear hb hbx
      by_cases hlt : k < t.fields.length
      · have hlt2 : (k : Int) < (t.fields.length : Int) := by omega
        have hk0 : (0 : Int) ≤ (k : Int) := by omega
        have hkm : k < (t.fields.map F.type).length := by rw [List.length_map]; exact hlt
        have HT := Lib.hid (T.sizes_take_succ (t.fields.map F.type) k hkm)
        have htl : T.sizes ((t.fields.map F.type).take k) + (t.fields[k]).type.size ≤ T.sizes (t.fields.map F.type) := by
          have := HT.out; rw [List.getElem_map] at this; rw [← this]; exact T.sizes_take_le _ (k + 1)
        have HE : Hid (T.sizes ((t.fields.map F.type).take (k + 1)) = T.sizes ((t.fields.map F.type).take k) + (t.fields[k]).type.size) := by
          have := HT.out; rw [List.getElem_map] at this; exact this
        obtain ⟨b, off, rfl, hbb, s6, s7, X3, b3, X4, b4, X5, b5, s0, s1, s2, s3, s4, s5, hi⟩ := HFV.out.kid HB.out hB hlt
        have HI := Lib.hid hi
        have hdk : (t.fields[k]).type.depth < t.depth := T.field_depth hlt
        clear hi s6 s7 hkm HT
        go_wp2_with fail
        refine (IH.out (t.fields[k]).type _ wr B (by omega) (by omega) (by omega) ⟨_, _, _, _, _, _, rfl, HI.out⟩).mono ?_
        rintro e w2 ⟨rfl, hb2⟩
        have HB2 : Hid (Below w.heap.size w w2) := HB.out.trans (hb2.mono hzr)
        have HX2 := Lib.hid (HX.out.same (hb2.block _ hxl))
        clear hb2 q0 q1 q2 q3 q4 q5
        obtain ⟨q0, q1, q2, q3, q4, q5⟩ := HX2.out.cells
        go_wp2_with fail
        go_roundw
        case rel => exact ⟨k + 1, by omega, by go_num, by rw [HE.out]; go_num, HB2.out, HX2.out⟩
        case measure => simp [intOf]; omega
      · have hkk : k = t.fields.length := by omega
        have htk : T.sizes ((t.fields.map F.type).take k) = T.sizes (t.fields.map F.type) := by rw [List.take_of_length_le (by rw [List.length_map]; omega)]
        rw [htk]
        clear htk
        subst hkk
        go_wp2_with fail
        clear q0 q1 q2 q3 q4 q5
        go_loopw [3, 5] (fun n i wr => ∃ k : Nat, k ≤ t.of.length ∧ i = .int .i64 k ∧ n = .int .i64 ((T.sizes (t.fields.map F.type) + T.sizes (t.of.take k) + 1 : Nat) : Int) ∧ Below w.heap.size w wr ∧ Box6 wr w.heap.size (.int .i64 t.kind) (.int .i64 t.lo) (.int .i64 t.hi) (.slice A3 t.names.length d3) (.slice A4 t.fields.length d4) (.slice A5 t.of.length d5)) (fun _ i _ => t.of.length - (intOf i).toNat)
        case atStart => exact ⟨0, Nat.zero_le _, rfl, by simp [T.sizes], HB.out, HX.out⟩
        case round =>
          obtain ⟨k, hk, rfl, rfl, hb, hbx⟩ := hrel
          have HB := Lib.hid hb; have HX := Lib.hid hbx
          obtain ⟨q0, q1, q2, q3, q4, q5⟩ := hbx.cells
          have hzr := hb.size
          have hxl := hbx.lt
          clear hb hbx
          by_cases hlt : k < t.of.length
          · have hlt2 : (k : Int) < (t.of.length : Int) := by omega
            have hk0 : (0 : Int) ≤ (k : Int) := by omega
            have HE := Lib.hid (T.sizes_take_succ t.of k hlt)
            have htl : T.sizes (t.of.take k) + (t.of[k]).size ≤ T.sizes t.of := by
              rw [← HE.out]; exact T.sizes_take_le _ (k + 1)
            obtain ⟨b, off, rfl, hbb, X3, b3, X4, b4, X5, b5, s0, s1, s2, s3, s4, s5, hi⟩ := HOV.out.kid HB.out hB hlt
            have HI := Lib.hid hi
            have hdk : (t.of[k]).depth < t.depth := T.of_depth hlt
            clear hi
            go_wp2_with fail
            refine (IH.out (t.of[k]) _ wr B (by omega) (by omega) (by omega) ⟨_, _, _, _, _, _, rfl, HI.out⟩).mono ?_
            rintro e w2 ⟨rfl, hb2⟩
            have HB2 : Hid (Below w.heap.size w w2) := HB.out.trans (hb2.mono hzr)
            have HX2 := Lib.hid (HX.out.same (hb2.block _ hxl))
            clear hb2 q0 q1 q2 q3 q4 q5
            obtain ⟨q0, q1, q2, q3, q4, q5⟩ := HX2.out.cells
            go_wp2_with fail
            go_roundw
            case rel => exact ⟨k + 1, by omega, by go_num, by rw [HE.out]; go_num, HB2.out, HX2.out⟩
            case measure => simp [intOf]; omega
          · have htk : T.sizes (t.of.take k) = T.sizes t.of := by rw [List.take_of_length_le (by omega)]
            rw [htk]
            have E : Hid (T.sizes (t.fields.map F.type) + T.sizes t.of + 1 = t.size) := hsz.symm
            go_wp2_with fail
            go_ret
            exact ⟨ret_int (by rw [E.out]), HB.out⟩
theorem depths_take_succ (l : List T) (k : Nat) (h : k < l.length) : T.depths (l.take (k + 1)) = max (T.depths (l.take k)) (l[k]).depth := by
  rw [List.take_succ_eq_append_getElem h, T.depths_append]; simp [T.depths]
theorem depths_take_le (l : List T) (k : Nat) : T.depths (l.take k) ≤ T.depths l := by
  have := T.depths_append (l.take k) (l.drop k)
  rw [List.take_append_drop] at this
  omega
set_option maxHeartbeats 4000000 in
set_option maxRecDepth 100000 in
theorem rtdepth_any (m : Nat) : ∀ (t : T) (v : Value) (w : World) (B : Nat), t.depth ≤ m → t.depth ≤ 10000 → t.Fit → B ≤ w.heap.size → TypeV w B t v →
    Calls Tryd.prog 19 #[v] w fun e w' => e = .returned (.int .i64 t.depth) ∧ Below w.heap.size w w' := by
  induction m with
  | zero => intro t; intro _ _ _ h; have := t.depth_pos; omega
  | succ m ih =>
    intro t v w B hm hs hfit hB ht
    obtain ⟨v0, v1, v2, v3, v4, v5, rfl, hin⟩ := ht
    have IH := Lib.hid ih; have HIN := Lib.hid hin
    obtain ⟨A3, d3, A4, d4, A5, d5, rfl, rfl, rfl, rfl, rfl, rfl⟩ := hin.forms
    have HFV := Lib.hid hin.fields_; have HOV := Lib.hid hin.of_
    have HFI := Lib.hid hfit
    clear ih hin
    have hsz := T.depth_eq t
    obtain ⟨hl0, hl1, hl2, _, _, _⟩ := hfit.parts
    go_enter Tryd.func19, Tryd.ntmps19
    clear hfit
    go_wp2_with fail
    obtain ⟨W2, hW2⟩ : ∃ W2, W2 = w.alloc (.cells #[.int .i64 t.kind, .int .i64 t.lo, .int .i64 t.hi, .slice A3 t.names.length d3, .slice A4 t.fields.length d4, .slice A5 t.of.length d5] 26) := ⟨_, rfl⟩
    have HBX : Hid (Box6 W2 w.heap.size (.int .i64 t.kind) (.int .i64 t.lo) (.int .i64 t.hi) (.slice A3 t.names.length d3) (.slice A4 t.fields.length d4) (.slice A5 t.of.length d5)) := by rw [hW2]; exact Box6.new w _ _ _ _ _ _
    have HBL : Hid (Below w.heap.size w W2) := by rw [hW2]; exact (Below.refl _ _).alloc (Nat.le_refl _) _
    rw [← hW2]
    clear hW2
    go_loopw [3, 4] (fun n i wr => ∃ k : Nat, k ≤ t.fields.length ∧ i = .int .i64 k ∧ n = .int .i64 ((T.depths ((t.fields.map F.type).take k) : Nat) : Int) ∧ Below w.heap.size w wr ∧ Box6 wr w.heap.size (.int .i64 t.kind) (.int .i64 t.lo) (.int .i64 t.hi) (.slice A3 t.names.length d3) (.slice A4 t.fields.length d4) (.slice A5 t.of.length d5)) (fun _ i _ => t.fields.length - (intOf i).toNat)
    case atStart => exact ⟨0, Nat.zero_le _, rfl, by simp [T.depths], HBL.out, HBX.out⟩
    case round =>
      obtain ⟨k, hk, rfl, rfl, hb, hbx⟩ := hrel
      have HB := Lib.hid hb; have HX := Lib.hid hbx
      obtain ⟨q0, q1, q2, q3, q4, q5⟩ := hbx.cells
      have hzr := hb.size
      have hxl := hbx.lt
      clear hb hbx
      by_cases hlt : k < t.fields.length
      · have hlt2 : (k : Int) < (t.fields.length : Int) := by omega
        have hk0 : (0 : Int) ≤ (k : Int) := by omega
        have hkm : k < (t.fields.map F.type).length := by rw [List.length_map]; exact hlt
        have HT := Lib.hid (depths_take_succ (t.fields.map F.type) k hkm)
        have htl : max (T.depths ((t.fields.map F.type).take k)) (t.fields[k]).type.depth ≤ T.depths (t.fields.map F.type) := by
          have := HT.out; rw [List.getElem_map] at this; rw [← this]; exact depths_take_le _ (k + 1)
        have HE : Hid (T.depths ((t.fields.map F.type).take (k + 1)) = max (T.depths ((t.fields.map F.type).take k)) (t.fields[k]).type.depth) := by
          have := HT.out; rw [List.getElem_map] at this; exact this
        obtain ⟨b, off, rfl, hbb, s6, s7, X3, b3, X4, b4, X5, b5, s0, s1, s2, s3, s4, s5, hi⟩ := HFV.out.kid HB.out hB hlt
        have HI := Lib.hid hi
        have hdk : (t.fields[k]).type.depth < t.depth := T.field_depth hlt
        clear hi s6 s7 hkm HT
        go_wp2_with fail
        refine (IH.out (t.fields[k]).type _ wr B (by omega) (by omega) (HFI.out.parts.2.2.2.2.1.at_ hlt).type (by omega) ⟨_, _, _, _, _, _, rfl, HI.out⟩).mono ?_
        rintro e w2 ⟨rfl, hb2⟩
        have HB2 : Hid (Below w.heap.size w w2) := HB.out.trans (hb2.mono hzr)
        have HX2 := Lib.hid (HX.out.same (hb2.block _ hxl))
        clear hb2 q0 q1 q2 q3 q4 q5
        obtain ⟨q0, q1, q2, q3, q4, q5⟩ := HX2.out.cells
        go_wp2_with fail
        all_goals
          go_roundw
          case rel => exact ⟨k + 1, by omega, by go_num, by rw [HE.out]; first | rfl | go_num | (congr 1; omega), HB2.out, HX2.out⟩
          case measure => simp [intOf]; omega
      · have hkk : k = t.fields.length := by omega
        have htk : T.depths ((t.fields.map F.type).take k) = T.depths (t.fields.map F.type) := by rw [List.take_of_length_le (by rw [List.length_map]; omega)]
        rw [htk]
        clear htk
        subst hkk
        go_wp2_with fail
        clear q0 q1 q2 q3 q4 q5
        go_loopw [3, 5] (fun n i wr => ∃ k : Nat, k ≤ t.of.length ∧ i = .int .i64 k ∧ n = .int .i64 ((max (T.depths (t.fields.map F.type)) (T.depths (t.of.take k)) : Nat) : Int) ∧ Below w.heap.size w wr ∧ Box6 wr w.heap.size (.int .i64 t.kind) (.int .i64 t.lo) (.int .i64 t.hi) (.slice A3 t.names.length d3) (.slice A4 t.fields.length d4) (.slice A5 t.of.length d5)) (fun _ i _ => t.of.length - (intOf i).toNat)
        case atStart => exact ⟨0, Nat.zero_le _, rfl, by simp [T.depths], HB.out, HX.out⟩
        case round =>
          obtain ⟨k, hk, rfl, rfl, hb, hbx⟩ := hrel
          have HB := Lib.hid hb; have HX := Lib.hid hbx
          obtain ⟨q0, q1, q2, q3, q4, q5⟩ := hbx.cells
          have hzr := hb.size
          have hxl := hbx.lt
          clear hb hbx
          by_cases hlt : k < t.of.length
          · have hlt2 : (k : Int) < (t.of.length : Int) := by omega
            have hk0 : (0 : Int) ≤ (k : Int) := by omega
            have HT := Lib.hid (depths_take_succ t.of k hlt)
            have htl : max (T.depths (t.of.take k)) (t.of[k]).depth ≤ T.depths t.of := by
              rw [← HT.out]; exact depths_take_le _ (k + 1)
            have HE : Hid (max (T.depths (t.fields.map F.type)) (T.depths (t.of.take (k + 1))) = max (max (T.depths (t.fields.map F.type)) (T.depths (t.of.take k))) (t.of[k]).depth) := by
              show max _ (T.depths (t.of.take (k + 1))) = _
              rw [HT.out]; omega
            have htl2 : max (T.depths (t.fields.map F.type)) (T.depths (t.of.take k)) < t.depth := by omega
            obtain ⟨b, off, rfl, hbb, X3, b3, X4, b4, X5, b5, s0, s1, s2, s3, s4, s5, hi⟩ := HOV.out.kid HB.out hB hlt
            have HI := Lib.hid hi
            have hdk : (t.of[k]).depth < t.depth := T.of_depth hlt
            clear hi HT
            generalize max (T.depths (t.fields.map F.type)) (T.depths (t.of.take k)) = M at HE htl2 ⊢
            go_wp2_with fail
            refine (IH.out (t.of[k]) _ wr B (by omega) (by omega) (HFI.out.parts.2.2.2.2.2.at_ hlt) (by omega) ⟨_, _, _, _, _, _, rfl, HI.out⟩).mono ?_
            rintro e w2 ⟨rfl, hb2⟩
            have HB2 : Hid (Below w.heap.size w w2) := HB.out.trans (hb2.mono hzr)
            have HX2 := Lib.hid (HX.out.same (hb2.block _ hxl))
            clear hb2 q0 q1 q2 q3 q4 q5
            obtain ⟨q0, q1, q2, q3, q4, q5⟩ := HX2.out.cells
            go_wp2_with fail
            all_goals
              go_roundw
              case rel => exact ⟨k + 1, by omega, by go_num, by rw [HE.out]; first | rfl | go_num | (congr 1; omega), HB2.out, HX2.out⟩
              case measure => simp [intOf]; omega
          · have htk : T.depths (t.of.take k) = T.depths t.of := by rw [List.take_of_length_le (by omega)]
            rw [htk]
            have E : Hid (max (T.depths (t.fields.map F.type)) (T.depths t.of) + 1 = t.depth) := hsz.symm
            have htl2 : max (T.depths (t.fields.map F.type)) (T.depths t.of) < t.depth := by omega
            generalize max (T.depths (t.fields.map F.type)) (T.depths t.of) = M at E htl2 ⊢
            go_wp2_with fail
            go_ret
            exact ⟨ret_int (by rw [← E.out]; go_num), HB.out⟩
end Go.Proofs.YtcbbocnblgpbbaaDoor
