/-
  schema.within and At.
-/
import Derived.Test.YtnjmknofojjlmaaDoorTField
namespace Go.Proofs.YtnjmknofojjlmaaDoor
open Go.RowKit

def zeroStr : ByteArray := ⟨#[48]⟩
theorem zero_list : zeroStr.toList = [48] := by rw [ByteArray.toList_eq]; rfl
/-- The type that a part of a path leads to. -/
def inside (t : T) (s : ByteArray) : Option T :=
  if t.kind = 1 then (if 0 ≤ fieldOf t s then (t.fields[(fieldOf t s).toNat]?).map F.type else none)
  else if (t.kind = 2 ∨ t.kind = 3) ∧ 0 < t.of.length ∧ (t.kind = 2 ∨ s = zeroStr) then t.of[0]? else none
def goAt (t : T) : List ByteArray → Option T
  | [] => some t
  | s :: r => (inside t s).bind fun t' => goAt t' r
theorem goAt_append : ∀ (a b : List ByteArray) (t : T), goAt t (a ++ b) = (goAt t a).bind fun t' => goAt t' b
  | [], b, t => rfl
  | s :: r, b, t => by
    simp only [List.cons_append, goAt]
    cases inside t s with
    | none => rfl
    | some t' => exact goAt_append r b t'
theorem inside_mem {t t' : T} {s : ByteArray} (h : inside t s = some t') : t' ∈ t.kids := by
  unfold inside at h
  split at h
  · split at h
    · rw [Option.map_eq_some_iff] at h
      obtain ⟨f, hf, rfl⟩ := h
      exact List.mem_append.2 (.inl (List.mem_map.2 ⟨f, List.mem_of_getElem? hf, rfl⟩))
    · cases h
  · split at h
    · exact List.mem_append.2 (.inr (List.mem_of_getElem? h))
    · cases h
theorem kid_small {t t' : T} (h : t' ∈ t.kids) : t'.depth < t.depth ∧ t'.size < t.size ∧ (t.Fit → t'.Fit) := by
  rw [kids_depths t, kids_sizes t]
  have key : ∀ l : List T, t' ∈ l → t'.depth ≤ T.depths l ∧ t'.size ≤ T.sizes l := by
    intro l
    induction l with
    | nil => intro h; cases h
    | cons x r ih =>
      intro h
      simp only [T.depths, T.sizes]
      rcases List.mem_cons.1 h with rfl | h
      · omega
      · have := ih h; omega
  have := key _ h
  refine ⟨by omega, by omega, fun hf => ?_⟩
  obtain ⟨_, _, _, _, h5, h6⟩ := hf.parts
  rcases List.mem_append.1 h with h | h
  · obtain ⟨f, hf, rfl⟩ := List.mem_map.1 h
    obtain ⟨i, hi, rfl⟩ := List.mem_iff_getElem.1 hf
    exact (h5.at_ hi).type
  · obtain ⟨i, hi, rfl⟩ := List.mem_iff_getElem.1 h
    exact h6.at_ hi
theorem goAt_small : ∀ {ps : List ByteArray} {t t' : T}, goAt t ps = some t' → t'.depth ≤ t.depth ∧ t'.size ≤ t.size ∧ (t.Fit → t'.Fit)
  | [], t, t', h => by simp only [goAt] at h; injection h with h; subst h; exact ⟨Nat.le_refl _, Nat.le_refl _, id⟩
  | s :: r, t, t', h => by
    simp only [goAt] at h
    cases hi : inside t s with
    | none => rw [hi] at h; cases h
    | some x =>
      rw [hi] at h
      obtain ⟨a1, a2, a3⟩ := kid_small (inside_mem hi)
      obtain ⟨b1, b2, b3⟩ := goAt_small (ps := r) h
      exact ⟨by omega, by omega, fun hf => b3 (a3 hf)⟩
/-- A type at an address, its six cells. -/
def Within (w' : World) (B : Nat) (t : T) (s : ByteArray) (e : Ending) : Prop :=
  (inside t s = none ∧ e = .returned (.pointer none)) ∨ ∃ (b' o' : Nat) (t' : T), inside t s = some t' ∧ e = .returned (.pointer (some ⟨b', o', none⟩)) ∧ b' < B ∧ TypeAt w' B b' o' t'
set_option maxHeartbeats 4000000 in
set_option maxRecDepth 100000 in
theorem within_any {t : T} {s : ByteArray} {b o : Nat} {w : World} {B : Nat} (hf : t.Fit) (hB : B ≤ w.heap.size) (hbl : b < w.heap.size) (ht : TypeAt w B b o t) :
    Calls Tryd.prog 33 #[.pointer (some ⟨b, o, none⟩), .string s] w fun e w' => Within w' B t s e ∧ Below w.heap.size w w' := by
  obtain ⟨v0, v1, v2, v3, v4, v5, c0, c1, c2, c3, c4, c5, hin⟩ := ht
  have HIN := Lib.hid hin
  have HFV := Lib.hid hin.fields_; have HOV := Lib.hid hin.of_
  obtain ⟨A3, d3, A4, d4, A5, d5, rfl, rfl, rfl, rfl, rfl, rfl⟩ := hin.forms
  obtain ⟨f1, f2, f3, -, -, -⟩ := hf.parts
  have HF := Lib.hid hf
  clear hin hf
  by_cases hk : t.kind = 1
  · have HK := Lib.hid hk
    have hk2 : (t.kind == 1) = true := by simp [hk]
    rcases fieldIdx_cases (calledB s) t.fields with ⟨h1, _⟩ | ⟨i, hi, h1, _, _⟩
    · have E := Lib.hid (show inside t s = none by unfold inside fieldOf; rw [if_pos hk, if_pos hk, h1]; rfl)
      have hfo := Lib.hid (show fieldOf t s = -1 by unfold fieldOf; rw [if_pos hk, h1])
      clear hk h1
      go_enter Tryd.func33, Tryd.ntmps33
      go_wp2_with fail
      refine (tfield_any (B := B) HF.out hB ⟨_, _, _, _, _, _, rfl, HIN.out⟩).mono ?_
      rintro e w1 ⟨rfl, hb1⟩
      rw [hfo.out]
      have HB1 := Lib.hid hb1; clear hb1
      go_wp2_with fail
      go_ret
      exact ⟨.inl ⟨E.out, rfl⟩, HB1.out⟩
    · have hfo := Lib.hid (show fieldOf t s = i by unfold fieldOf; rw [if_pos hk, h1])
      have E := Lib.hid (show inside t s = some (t.fields[i]).type by
        unfold inside; rw [if_pos hk, hfo.out, if_pos (by omega)]; simp [hi])
      clear hk h1
      obtain ⟨A, cc, e, _, hfi⟩ := HFV.out
      injection e with e1 _ e3
      subst e1
      obtain ⟨bf, off, rfl, hbf, hfi⟩ := hfi (by omega)
      have hat := (FieldsIn.at_ hfi i hi).2.2
      rw [Nat.zero_add] at hat
      have HAT := Lib.hid hat
      clear e3 hat hfi
      have C4 := Lib.hid c4
      go_enter Tryd.func33, Tryd.ntmps33
      go_wp2_with fail
      refine (tfield_any (B := B) HF.out hB ⟨_, _, _, _, _, _, rfl, HIN.out⟩).mono ?_
      rintro e w1 ⟨rfl, hb1⟩
      rw [hfo.out]
      have HB1 := Lib.hid hb1
      have c4' := (hb1.cell (p := ⟨b, o + 4, none⟩) hbl).trans C4.out
      have hi0 : (0 : Int) ≤ (i : Int) := by omega
      have hi1 : (i : Int) < (t.fields.length : Int) := by omega
      clear hb1
      go_wp2_with fail
      go_ret
      exact ⟨.inr ⟨bf, _, _, E.out, rfl, hbf, HAT.out.keep (Nat.le_refl _) (fun p hp => HB1.out.cell (by omega)) hbf⟩, HB1.out⟩
  · have hk1 : (t.kind == 1) = false := by simp [hk]
    by_cases hk2 : t.kind = 2
    · have g2 : (t.kind == 2) = true := by simp [hk2]
      by_cases ho : 0 < t.of.length
      · have E := Lib.hid (show inside t s = some t.of[0] by unfold inside; rw [if_neg hk, if_pos ⟨.inl hk2, ho, .inl hk2⟩]; simp [ho])
        obtain ⟨A, cc, e, _, hfi⟩ := HOV.out
        injection e with e1 _ e3
        subst e1
        obtain ⟨bf, off, rfl, hbf, hfi⟩ := hfi (by omega)
        have hat := TypesIn.at_ hfi 0 ho
        rw [Nat.zero_add, Nat.zero_mul, Nat.add_zero] at hat
        have HAT := Lib.hid hat
        have ho2 : (0 : Int) < (t.of.length : Int) := by omega
        have ho3 : ¬ t.of = [] := fun e => by rw [e] at ho; simp at ho
        clear e3 hat hfi hk hk2
        go_enter Tryd.func33, Tryd.ntmps33
        go_wp2_with fail
        go_ret
        exact ⟨.inr ⟨bf, _, _, E.out, rfl, hbf, HAT.out⟩, Below.refl _ _⟩
      · have E := Lib.hid (show inside t s = none by unfold inside; rw [if_neg hk, if_neg (fun h => ho h.2.1)])
        have ho2 : t.of.length = 0 := by omega
        rw [ho2] at c5
        clear ho ho2 hk hk2
        go_enter Tryd.func33, Tryd.ntmps33
        go_wp2_with fail
        go_ret
        exact ⟨.inl ⟨E.out, rfl⟩, Below.refl _ _⟩
    · have g2 : (t.kind == 2) = false := by simp [hk2]
      by_cases hk3 : t.kind = 3
      · have g3 : (t.kind == 3) = true := by simp [hk3]
        by_cases ho : 0 < t.of.length
        · have ho2 : (0 : Int) < (t.of.length : Int) := by omega
          have ho3 : ¬ t.of = [] := fun e => by rw [e] at ho; simp at ho
          by_cases hs : s = zeroStr
          · have E := Lib.hid (show inside t s = some t.of[0] by unfold inside; rw [if_neg hk, if_pos ⟨.inr hk3, ho, .inr hs⟩]; simp [ho])
            obtain ⟨A, cc, e, _, hfi⟩ := HOV.out
            injection e with e1 _ e3
            subst e1
            obtain ⟨bf, off, rfl, hbf, hfi⟩ := hfi (by omega)
            have hat := TypesIn.at_ hfi 0 ho
            rw [Nat.zero_add, Nat.zero_mul, Nat.add_zero] at hat
            have HAT := Lib.hid hat
            have hs2 : (s.toList == [48]) = true := by rw [← zero_list, beq_iff]; simp [hs]
            clear e3 hat hfi hk hk2 hk3 hs
            go_enter Tryd.func33, Tryd.ntmps33
            go_wp2_with fail
            go_ret
            exact ⟨.inr ⟨bf, _, _, E.out, rfl, hbf, HAT.out⟩, Below.refl _ _⟩
          · have E := Lib.hid (show inside t s = none by unfold inside; rw [if_neg hk, if_neg (fun h => h.2.2.elim hk2 hs)])
            have hs2 : (s.toList == [48]) = false := by rw [← zero_list, beq_iff]; simp [hs]
            clear hk hk2 hk3 hs
            go_enter Tryd.func33, Tryd.ntmps33
            go_wp2_with fail
            go_ret
            exact ⟨.inl ⟨E.out, rfl⟩, Below.refl _ _⟩
        · have E := Lib.hid (show inside t s = none by unfold inside; rw [if_neg hk, if_neg (fun h => ho h.2.1)])
          have ho2 : t.of.length = 0 := by omega
          rw [ho2] at c5
          clear ho ho2 hk hk2 hk3
          go_enter Tryd.func33, Tryd.ntmps33
          go_wp2_with fail
          go_ret
          exact ⟨.inl ⟨E.out, rfl⟩, Below.refl _ _⟩
      · have g3 : (t.kind == 3) = false := by simp [hk3]
        have E := Lib.hid (show inside t s = none by unfold inside; rw [if_neg hk, if_neg (fun h => h.1.elim hk2 hk3)])
        clear hk hk2 hk3
        go_enter Tryd.func33, Tryd.ntmps33
        go_wp2_with fail
        go_ret
        exact ⟨.inl ⟨E.out, rfl⟩, Below.refl _ _⟩
theorem T.zero_own {w : World} (W0 : Nat) (h : W0 ≤ w.heap.size) : Copied W0 w (.mk 0 0 0 [] [] []) (.slice none 0 0) (.slice none 0 0) (.slice none 0 0) :=
  ⟨[], [], h, World.ownsRow_nil _ _ _ _, World.ownsRow_nil _ _ _ _, World.ownsRow_nil _ _ _ _, rfl, rfl, by simp [Value.ownBlock], by simp [Value.ownBlock], by simp [Value.ownBlock]⟩
def T.zero : T := .mk 0 0 0 [] [] []
theorem ret_cell6_2 {P : Program} {fn : Func} {R : Ending → World → Prop} {a : Act} {w : World} {b : Nat} {t t2 : Tmp} {v0 v1 v2 v3 v4 v5 u : Value} {T : TypeId} (hres : fn.results = #[.cell t T, .tmp t2]) (hslot : a.tmps.getD t undef = .pointer (some ⟨b, 0, none⟩)) (hslot2 : a.tmps.getD t2 undef = u)
    (hload : (loadVar T ⟨b, 0, none⟩).run P w = .ok (.agg #[v0, v1, v2, v3, v4, v5]) w) (hd : a.defers = []) (hR : R (.returned (.tuple #[.agg #[v0, v1, v2, v3, v4, v5], u])) w) : bodyPost P fn R .ret a w :=
  bodyPost_ret (v := .tuple #[.agg #[v0, v1, v2, v3, v4, v5], u]) (by rw [Array.getD_eq_getD_getElem?] at hslot hslot2; simp [results, hres, hslot, hslot2, asAddr, hload]) hd hR
/-- Six cells are turned. -/
def fill6 (w : World) (b : Nat) (v0 v1 v2 v3 v4 v5 : Value) : World := (((((w.setCell ⟨b, 0, none⟩ v0).setCell ⟨b, 1, none⟩ v1).setCell ⟨b, 2, none⟩ v2).setCell ⟨b, 3, none⟩ v3).setCell ⟨b, 4, none⟩ v4).setCell ⟨b, 5, none⟩ v5
theorem fill6_box {w : World} {b : Nat} {u0 u1 u2 u3 u4 u5 : Value} (h : Box6 w b u0 u1 u2 u3 u4 u5) (v0 v1 v2 v3 v4 v5 : Value) : Box6 (fill6 w b v0 v1 v2 v3 v4 v5) b v0 v1 v2 v3 v4 v5 :=
  (((((h.set0 v0).set1 v1).set2 v2).set3 v3).set4 v4).set5 v5
theorem fill6_size (w : World) (b : Nat) (v0 v1 v2 v3 v4 v5 : Value) : (fill6 w b v0 v1 v2 v3 v4 v5).heap.size = w.heap.size := by simp [fill6, World.setCell]
theorem fill6_far (w : World) (b : Nat) (v0 v1 v2 v3 v4 v5 : Value) (k : Nat) (hk : k ≠ b) : (fill6 w b v0 v1 v2 v3 v4 v5).heap[k]? = w.heap[k]? := by
  unfold fill6
  rw [Below.heap_setCell _ _ _ k hk, Below.heap_setCell _ _ _ k hk, Below.heap_setCell _ _ _ k hk, Below.heap_setCell _ _ _ k hk, Below.heap_setCell _ _ _ k hk, Below.heap_setCell _ _ _ k hk]
theorem fill6_below {B : Nat} {w0 w : World} {b : Nat} (h : Below B w0 w) (hb : B ≤ b) (v0 v1 v2 v3 v4 v5 : Value) : Below B w0 (fill6 w b v0 v1 v2 v3 v4 v5) :=
  (((((h.setCell (by exact hb) _).setCell (by exact hb) _).setCell (by exact hb) _).setCell (by exact hb) _).setCell (by exact hb) _).setCell (by exact hb) _
/-- What schema.At tells. -/
def AtRes (W0 : Nat) (w : World) (r : Option T) (e : Ending) (w' : World) : Prop :=
  ∃ (x3 x4 x5 : Value), e = .returned (.tuple #[.agg #[.int .i64 (r.getD T.zero).kind, .int .i64 (r.getD T.zero).lo, .int .i64 (r.getD T.zero).hi, x3, x4, x5], .bool r.isSome]) ∧ Copied W0 w' (r.getD T.zero) x3 x4 x5 ∧ Below W0 w w'
set_option maxHeartbeats 4000000 in
set_option maxRecDepth 100000 in
theorem tat_any {t : T} {v pv : Value} {ps : List ByteArray} {w : World} {B : Nat} (hf : t.Fit) (hd : t.depth ≤ 900) (hps : ps.length ≤ 10000) (hB : B ≤ w.heap.size) (ht : TypeV w B t v) (hp : Strs w B pv ps) :
    Calls Tryd.prog 13 #[v, pv] w (AtRes w.heap.size w (goAt t ps)) := by
  obtain ⟨v0, v1, v2, v3, v4, v5, rfl, hin⟩ := ht
  have HIN := Lib.hid hin
  obtain ⟨A3, d3, A4, d4, A5, d5, rfl, rfl, rfl, rfl, rfl, rfl⟩ := hin.forms
  have HF := Lib.hid hf
  obtain ⟨PA, pc, rfl, hpc, hpk⟩ := hp
  have HPK := Lib.hid hpk
  clear hin hf hpk
  go_enter Tryd.func13, Tryd.ntmps13
  go_wp2_with fail
  go_loopw [11] (fun i wr => ∃ (j : Nat) (tj : T) (y3 y4 y5 : Value), j ≤ ps.length ∧ i = .int .i64 j ∧ goAt t (ps.take j) = some tj ∧ Box6 wr w.heap.size (.int .i64 tj.kind) (.int .i64 tj.lo) (.int .i64 tj.hi) y3 y4 y5 ∧ TypeIn wr B tj (.int .i64 tj.kind) (.int .i64 tj.lo) (.int .i64 tj.hi) y3 y4 y5 ∧
      Box6 wr (w.heap.size + 1) (.int .i64 0) (.int .i64 0) (.int .i64 0) (.slice none 0 0) (.slice none 0 0) (.slice none 0 0) ∧ Below w.heap.size w wr) (fun i _ => ps.length - (intOf i).toNat)
  case atStart => exact ⟨0, t, _, _, _, Nat.zero_le _, rfl, rfl, (Box6.new w _ _ _ _ _ _).alloc _, HIN.out.keep (Nat.le_refl _) (fun p hp => (World.cell?_alloc_lt (w.alloc _) _ p (by simp; omega)).trans (World.cell?_alloc_lt w _ p (by omega))), Box6.new' (by simp) _ _ _ _ _ _, ((Below.refl _ _).alloc (Nat.le_refl _) _).alloc (by simp) _⟩
  case round =>
    obtain ⟨j, tj, y3, y4, y5, hj, rfl, hgo, hbx, hti, hrx, hb⟩ := hrel
    have HGO := Lib.hid hgo; have HBX := Lib.hid hbx; have HTI := Lib.hid hti; have HRX := Lib.hid hrx; have HB := Lib.hid hb
    obtain ⟨B3, e3, B4, e4, B5, e5, -, -, -, rfl, rfl, rfl⟩ := hti.forms
    have hsm := goAt_small hgo
    have HFJ := Lib.hid (hsm.2.2 HF.out)
    have hbz := hbx.lt
    have hrz := hrx.lt
    have hzr := hb.size
    clear hgo hti
    by_cases hlt : j < ps.length
    · obtain ⟨bp, off, rfl, hbp, hcells⟩ := HPK.out (by omega)
      have gp := (hb.cell (p := ⟨bp, off + j, none⟩) (by show bp < _; omega)).trans (hcells j hlt)
      have hgt : goAt t (ps.take (j + 1)) = inside tj ps[j] := by
        rw [List.take_succ_eq_append_getElem hlt, goAt_append, HGO.out]
        show (inside tj ps[j]).bind _ = _
        cases inside tj ps[j] <;> rfl
      have HGT := Lib.hid hgt
      have hat : TypeAt wr B w.heap.size 0 tj := hbx.at_ HTI.out
      have HAT := Lib.hid hat
      clear hcells hb hgt hbx hrx hat
      go_wp2_with fail
      refine (within_any (B := B) HFJ.out (by omega) hbz HAT.out).mono ?_
      rintro e w1 ⟨hwi, hb1⟩
      have hz1 := hb1.size
      have HB1 : Hid (Below w.heap.size w w1) := HB.out.trans (hb1.mono hzr)
      have HRX1 : Hid (Box6 w1 (w.heap.size + 1) (.int .i64 0) (.int .i64 0) (.int .i64 0) (.slice none 0 0) (.slice none 0 0) (.slice none 0 0)) := HRX.out.same (hb1.block _ hrz)
      have HBX1 := Lib.hid (HBX.out.same (hb1.block _ hbz))
      clear hb1
      rcases hwi with ⟨hno, rfl⟩ | ⟨b', o', t', hyes, rfl, hb', hat'⟩
      · have HN : Hid (goAt t ps = none) := by
          show goAt t ps = none
          rw [← List.take_append_drop (j + 1) ps, goAt_append, HGT.out, hno]; rfl
        clear hno
        obtain ⟨r0, r1, r2, r3, r4, r5⟩ := HRX1.out.cells
        have r6 := HRX1.out.frozen
        go_wp2_with fail
        clear r0 r1 r2 r3 r4 r5 r6
        refine ret_cell6_2 (u := .bool false) rfl rfl rfl (fill6_box HRX1.out (.int .i64 0) (.int .i64 0) (.int .i64 0) (.slice none 0 0) (.slice none 0 0) (.slice none 0 0)).load rfl ?_
        rw [HN.out]
        exact ⟨_, _, _, rfl, T.zero_own _ (by show w.heap.size ≤ (fill6 w1 (w.heap.size + 1) _ _ _ _ _ _).heap.size; rw [fill6_size]; omega), fill6_below HB1.out (by omega) _ _ _ _ _ _⟩
      · have HN : Hid (goAt t (ps.take (j + 1)) = some t') := by show _ = _; rw [HGT.out, hyes]
        have HAT' := Lib.hid hat'
        obtain ⟨u0, u1, u2, u3, u4, u5, s0, s1, s2, s3, s4, s5, hin⟩ := hat'
        have HIN' := Lib.hid hin
        obtain ⟨X3, g3, X4, g4, X5, g5, rfl, rfl, rfl, rfl, rfl, rfl⟩ := hin.forms
        obtain ⟨p0, p1, p2, p3, p4, p5⟩ := HBX1.out.cells
        have p6 := HBX1.out.frozen
        clear hyes hin
        go_wp2_with fail
        clear s0 s1 s2 s3 s4 s5 p0 p1 p2 p3 p4 p5 p6 gp
        go_roundw
        case rel => exact ⟨j + 1, t', _, _, _, by omega, by go_num, HN.out, fill6_box HBX1.out _ _ _ _ _ _, HIN'.out.keep (Nat.le_refl _) (fun p hp => World.cell?_of_block (fill6_far w1 w.heap.size _ _ _ _ _ _ p.block (by omega))), HRX1.out.same (fill6_far w1 w.heap.size _ _ _ _ _ _ _ (by omega)), fill6_below HB1.out (Nat.le_refl _) _ _ _ _ _ _⟩
        case measure => simp [intOf]; omega
    · have HN : Hid (goAt t ps = some tj) := by have := HGO.out; rw [List.take_of_length_le (by omega)] at this; exact this
      obtain ⟨p0, p1, p2, p3, p4, p5⟩ := HBX.out.cells
      clear hbx hrx hb
      go_wp2_with fail
      refine (tcopy_any (B := B) HFJ.out (by omega) (by omega) ⟨_, _, _, _, _, _, rfl, HTI.out⟩).mono ?_
      rintro e w1 ⟨x3, x4, x5, rfl, hcp, hb1⟩
      have hz1 := hb1.size
      obtain ⟨X3, g3, X4, g4, X5, g5, rfl, rfl, rfl⟩ := hcp.forms
      have HCP := Lib.hid hcp
      have HB1 : Hid (Below w.heap.size w w1) := HB.out.trans (hb1.mono hzr)
      have HRX1 : Hid (Box6 w1 (w.heap.size + 1) (.int .i64 0) (.int .i64 0) (.int .i64 0) (.slice none 0 0) (.slice none 0 0) (.slice none 0 0)) := HRX.out.same (hb1.block _ hrz)
      obtain ⟨r0, r1, r2, r3, r4, r5⟩ := HRX1.out.cells
      have r6 := HRX1.out.frozen
      clear hb1 hcp p0 p1 p2 p3 p4 p5
      go_wp2_with fail
      clear r0 r1 r2 r3 r4 r5 r6
      refine ret_cell6_2 (u := .bool true) rfl rfl rfl (fill6_box HRX1.out (.int .i64 tj.kind) (.int .i64 tj.lo) (.int .i64 tj.hi) (.slice X3 tj.names.length g3) (.slice X4 tj.fields.length g4) (.slice X5 tj.of.length g5)).load rfl ?_
      rw [HN.out]
      exact ⟨_, _, _, rfl, (HCP.out.later (by show w1.heap.size ≤ (fill6 w1 (w.heap.size + 1) _ _ _ _ _ _).heap.size; rw [fill6_size]; omega) fun k hk _ => fill6_far w1 (w.heap.size + 1) _ _ _ _ _ _ k (by omega)).mono (by omega), fill6_below HB1.out (by omega) _ _ _ _ _ _⟩
end Go.Proofs.YtnjmknofojjlmaaDoor
