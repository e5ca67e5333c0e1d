/-
  schema.over with Copy's closure, walked.
-/
import Derived.Test.YtnjmknofojjlmaaDoorTCopyV
namespace Go.Proofs.YtnjmknofojjlmaaDoor
open Go.RowKit

theorem window {w : World} {S : Nat → Prop} {t : T} {v0 v1 v2 v3 v4 v5 : Value} (h : TypeS w S t v0 v1 v2 v3 v4 v5) : v0 = .int .i64 t.kind ∧ v1 = .int .i64 t.lo ∧ v2 = .int .i64 t.hi := by
  obtain ⟨_, _, _, _, _, _, h0, h1, h2, _⟩ := h.forms
  exact ⟨h0, h1, h2⟩
theorem lt_of_get {arr : Array Value} {i : Nat} {v : Value} (h : arr[i]? = some v) : i < arr.size := (Array.getElem?_eq_some_iff.1 h).1
theorem set3_at4 {arr : Array Value} {o : Nat} {x3 x4 x5 v : Value} (h : arr[o + 4]? = some v) : (((arr.setIfInBounds (o + 3) x3).setIfInBounds (o + 4) x4).setIfInBounds (o + 5) x5)[o + 4]? = some x4 := by
  have := lt_of_get h
  rw [Array.getElem?_setIfInBounds_ne (by omega), Array.getElem?_setIfInBounds_self_of_lt (by simpa using this)]
theorem set3_at5 {arr : Array Value} {o : Nat} {x3 x4 x5 v : Value} (h : arr[o + 5]? = some v) : (((arr.setIfInBounds (o + 3) x3).setIfInBounds (o + 4) x4).setIfInBounds (o + 5) x5)[o + 5]? = some x5 := by
  have := lt_of_get h
  rw [Array.getElem?_setIfInBounds_self_of_lt (by simpa using this)]
theorem field_step {w w1 wr w2 : World} {S : Nat → Prop} {l : List F} {j g cap : Nat} (hlt : j < l.length) {k1 k2 : List Value} {u0 u1 u2 u3 u4 u5 y3 y4 y5 : Value} {cur : Array Value}
    (HO : wr.ownsRow w.heap.size 40 8 (.slice (some ⟨g, 0, none⟩) l.length cap) l.length (k1 ++ .string (l[j]).name :: .bool (l[j]).opt :: u0 :: u1 :: u2 :: u3 :: u4 :: u5 :: k2)) (hr : RawFs wr (fun k => w1.heap.size ≤ k ∧ k < wr.heap.size) (l.take j) k1)
    (hts : TypeS w S (l[j]).type u0 u1 u2 u3 u4 u5) (hcur : wr.heap[g]? = some (.cells cur 40 (0, 0))) (hl : k1.length = j * 8) (hg : g < w1.heap.size) (hz : w1.heap.size ≤ wr.heap.size)
    (hbx : w2.heap[g]? = some (.cells (((cur.setIfInBounds (j * 8 + 2 + 3) y3).setIfInBounds (j * 8 + 2 + 3 + 1) y4).setIfInBounds (j * 8 + 2 + 3 + 2) y5) 40 (0, 0))) (hcp : Copied wr.heap.size w2 (l[j]).type y3 y4 y5) (hbt : But g wr w2) :
    w2.ownsRow w.heap.size 40 8 (.slice (some ⟨g, 0, none⟩) l.length cap) l.length ((k1 ++ [.string (l[j]).name, .bool (l[j]).opt, u0, u1, u2, y3, y4, y5]) ++ k2) ∧ RawFs w2 (fun k => w1.heap.size ≤ k ∧ k < w2.heap.size) (l.take (j + 1)) (k1 ++ [.string (l[j]).name, .bool (l[j]).opt, u0, u1, u2, y3, y4, y5]) := by
  have hsz := hbt.size
  obtain ⟨rfl, rfl, rfl⟩ := window hts
  constructor
  · have e1 : k1 ++ .string (l[j]).name :: .bool (l[j]).opt :: .int .i64 (l[j]).type.kind :: .int .i64 (l[j]).type.lo :: .int .i64 (l[j]).type.hi :: u3 :: u4 :: u5 :: k2 = (k1 ++ [.string (l[j]).name, .bool (l[j]).opt, .int .i64 (l[j]).type.kind, .int .i64 (l[j]).type.lo, .int .i64 (l[j]).type.hi]) ++ u3 :: u4 :: u5 :: k2 := by simp
    rw [e1] at HO
    have := row_set3 (i := j * 8 + 2 + 3) HO hcur (by simp [hl]) hbx
    simpa using this
  · refine RawFs.snoc hlt (hr.keep (fun k hk => ⟨hk.1, by omega⟩) fun p hp => hbt.cell (by omega) (by omega)) ?_
    exact hcp.typeS.keep (fun k hk => ⟨by omega, hk.2⟩) fun _ _ => rfl
theorem type_step {w w1 wr w2 : World} {S : Nat → Prop} {l : List T} {j g cap : Nat} (hlt : j < l.length) {k1 k2 : List Value} {u0 u1 u2 u3 u4 u5 y3 y4 y5 : Value} {cur : Array Value}
    (HO : wr.ownsRow w.heap.size 26 6 (.slice (some ⟨g, 0, none⟩) l.length cap) l.length (k1 ++ u0 :: u1 :: u2 :: u3 :: u4 :: u5 :: k2)) (hr : RawTs wr (fun k => w1.heap.size ≤ k ∧ k < wr.heap.size) (l.take j) k1)
    (hts : TypeS w S l[j] u0 u1 u2 u3 u4 u5) (hcur : wr.heap[g]? = some (.cells cur 26 (0, 0))) (hl : k1.length = j * 6) (hg : g < w1.heap.size) (hz : w1.heap.size ≤ wr.heap.size)
    (hbx : w2.heap[g]? = some (.cells (((cur.setIfInBounds (j * 6 + 3) y3).setIfInBounds (j * 6 + 3 + 1) y4).setIfInBounds (j * 6 + 3 + 2) y5) 26 (0, 0))) (hcp : Copied wr.heap.size w2 l[j] y3 y4 y5) (hbt : But g wr w2) :
    w2.ownsRow w.heap.size 26 6 (.slice (some ⟨g, 0, none⟩) l.length cap) l.length ((k1 ++ [u0, u1, u2, y3, y4, y5]) ++ k2) ∧ RawTs w2 (fun k => w1.heap.size ≤ k ∧ k < w2.heap.size) (l.take (j + 1)) (k1 ++ [u0, u1, u2, y3, y4, y5]) := by
  have hsz := hbt.size
  obtain ⟨rfl, rfl, rfl⟩ := window hts
  constructor
  · have e1 : k1 ++ .int .i64 (l[j]).kind :: .int .i64 (l[j]).lo :: .int .i64 (l[j]).hi :: u3 :: u4 :: u5 :: k2 = (k1 ++ [.int .i64 (l[j]).kind, .int .i64 (l[j]).lo, .int .i64 (l[j]).hi]) ++ u3 :: u4 :: u5 :: k2 := by simp
    rw [e1] at HO
    have := row_set3 (i := j * 6 + 3) HO hcur (by simp [hl]) hbx
    simpa using this
  · refine RawTs.snoc hlt (hr.keep (fun k hk => ⟨hk.1, by omega⟩) fun p hp => hbt.cell (by omega) (by omega)) ?_
    exact hcp.typeS.keep (fun k hk => ⟨by omega, hk.2⟩) fun _ _ => rfl
set_option maxHeartbeats 8000000 in
set_option maxRecDepth 100000 in
theorem cvisit_any {s v : Nat} (m : Nat) :
    ∀ (t : T) (d b o : Nat) (arr : Array Value) (ty : TypeId) (w : World) (S : Nat → Prop) (v0 v1 v2 v3 v4 v5 : Value), t.depth ≤ m → t.Fit → d + t.depth ≤ 1000 → w.heap[b]? = some (.cells arr ty (0, 0)) →
      arr[o + 3]? = some v3 → arr[o + 4]? = some v4 → arr[o + 5]? = some v5 → TypeS w S t v0 v1 v2 v3 v4 v5 → (∀ k, S k → k < w.heap.size ∧ k ≠ b) → s < w.heap.size → v < w.heap.size → s ≠ b → v ≠ b →
      w.cell? ⟨s, 0, none⟩ = some (.func (.func 56) #[] #[]) → w.cell? ⟨v, 0, none⟩ = some (.func (.func 43) #[] #[.pointer (some ⟨s, 0, none⟩), .pointer (some ⟨v, 0, none⟩)]) →
      Calls Tryd.prog 43 #[.pointer (some ⟨b, o, none⟩), .int .i64 (d : Int), .pointer (some ⟨s, 0, none⟩), .pointer (some ⟨v, 0, none⟩)] w fun e w' =>
        e = .returned (.bool true) ∧ ∃ x3 x4 x5, w'.heap[b]? = some (.cells (((arr.setIfInBounds (o + 3) x3).setIfInBounds (o + 3 + 1) x4).setIfInBounds (o + 3 + 2) x5) ty (0, 0)) ∧ Copied w.heap.size w' t x3 x4 x5 ∧ But b w w' := by
  induction m with
  | zero => intro t; intro _ _ _ _ _ _ _ _ _ _ _ _ _ h; have := t.depth_pos; omega
  | succ m ih =>
    intro t d b o arr ty w S v0 v1 v2 v3 v4 v5 hm hf hd hb a3 a4 a5 ht hS hs hv hsb hvb cs cv
    have IH := Lib.hid ih; have HF := Lib.hid hf; have HS := Lib.hid hS
    have HC := Lib.hid (copy1_any (d := d) hf hb a3 a4 a5 ht hS)
    have hbl := size_block hb
    have CSW := Lib.hid cs; have CVW := Lib.hid cv
    have hdp := T.depth_eq t
    have HA4 := Lib.hid a4; have HA5 := Lib.hid a5
    clear ih hf hS hb a3 a4 a5 ht
    go_enter Tryd.func43, Tryd.ntmps43
    go_wp2_with fail
    refine HC.out.mono ?_
    rintro e w1 ⟨rfl, x3, x4, x5, xs, ys, hsh⟩
    have HSH := Lib.hid hsh
    have hz1 := hsh.bt.size
    obtain ⟨A4, c4, rfl⟩ := t_ownsRow_slice hsh.o4
    obtain ⟨A5, c5, rfl⟩ := t_ownsRow_slice hsh.o5
    obtain ⟨A3, c3, rfl⟩ := t_ownsRow_slice hsh.o3
    have q4 : w1.cell? ⟨b, o + 4, none⟩ = some (.slice A4 t.fields.length c4) := (cell_block hsh.box _).trans (set3_at4 HA4.out)
    have q5 : w1.cell? ⟨b, o + 5, none⟩ = some (.slice A5 t.of.length c5) := (cell_block hsh.box _).trans (set3_at5 HA5.out)
    have Q5 := Lib.hid q5; have Q4 := Lib.hid q4
    have cs1 : w1.cell? ⟨s, 0, none⟩ = some (.func (.func 56) #[] #[]) := (hsh.bt.cell (by exact hs) hsb).trans cs
    have cv1 : w1.cell? ⟨v, 0, none⟩ = some (.func (.func 43) #[] #[.pointer (some ⟨s, 0, none⟩), .pointer (some ⟨v, 0, none⟩)]) := (hsh.bt.cell (by exact hv) hvb).trans cv
    have CS1 := Lib.hid cs1; have CV1 := Lib.hid cv1
    obtain ⟨f1, f2, f3, -, f5, f6⟩ := HF.out.parts
    have F5 := Lib.hid f5; have F6 := Lib.hid f6
    have l4 := Lib.hid hsh.o4.lt
    clear hsh cs1 cv1 cs cv f5 f6
    go_wp2_with fail
    go_loopw [19] (fun i wr => ∃ (j : Nat) (k1 k2 : List Value), j ≤ t.fields.length ∧ i = .int .i64 j ∧ wr.ownsRow w.heap.size 40 8 (.slice A4 t.fields.length c4) t.fields.length (k1 ++ k2) ∧ RawFs wr (fun k => w1.heap.size ≤ k ∧ k < wr.heap.size) (t.fields.take j) k1 ∧ RawFs w S (t.fields.drop j) k2 ∧ ButO (.slice A4 t.fields.length c4) w1 wr) (fun i _ => t.fields.length - (intOf i).toNat)
    case atStart => exact ⟨0, [], xs, Nat.zero_le _, rfl, HSH.out.o4, rfl, by simpa using HSH.out.r4, ButO.refl _ _⟩
    case round =>
      obtain ⟨j, k1, k2, hj, rfl, hown, hr1, hr2, hbt⟩ := hrel
      have HO := Lib.hid hown; have HR1 := Lib.hid hr1; have HR2 := Lib.hid hr2; have HBT := Lib.hid hbt
      have hzr := hbt.size
      have l4' := l4.out
      clear hown hr1 hr2
      have csr : wr.cell? ⟨s, 0, none⟩ = some (.func (.func 56) #[] #[]) := (World.cell?_of_block (a := ⟨s, 0, none⟩) (hbt.block s (by omega) (fun e => by have := l4' _ e; omega))).trans CS1.out
      have cvr : wr.cell? ⟨v, 0, none⟩ = some (.func (.func 43) #[] #[.pointer (some ⟨s, 0, none⟩), .pointer (some ⟨v, 0, none⟩)]) := (World.cell?_of_block (a := ⟨v, 0, none⟩) (hbt.block v (by omega) (fun e => by have := l4' _ e; omega))).trans CV1.out
      have q4r : wr.cell? ⟨b, o + 4, none⟩ = some (.slice A4 t.fields.length c4) := (World.cell?_of_block (a := ⟨b, o + 4, none⟩) (hbt.block b (by omega) (fun e => by have := l4' _ e; omega))).trans Q4.out
      clear hbt
      by_cases hlt : j < t.fields.length
      · obtain ⟨g, cap, e, hg, hgl⟩ := HO.out.form (by omega)
        injection e with e1 _ e3
        subst e1; subst e3
        obtain ⟨u0, u1, u2, u3, u4, u5, k2', rfl, hts, hrest⟩ := HR2.out.cut hlt
        obtain ⟨cur, hcur, hat⟩ := row_cur HO.out
        have hl1 := HR1.out.len
        rw [List.length_take, Nat.min_eq_left hj] at hl1
        have hgw : w.heap.size ≤ g := hg
        have hg1 : g < w1.heap.size := (l4' g rfl).2
        have HTS := Lib.hid hts; have HREST := Lib.hid hrest; have HCUR := Lib.hid hcur; have HAT := Lib.hid hat
        clear hts hrest hcur hat q4 q5
        have hd1 : (d : Int) + 1 = ((d + 1 : Nat) : Int) := by omega
        have HD1 := Lib.hid hd1
        have hw0 : IntKind.i64.wrap ((d : Int) + 1) = ((d + 1 : Nat) : Int) := by rw [hd1]; exact IntWalk.i64_in _ (by omega)
        clear hd1
        have hj0 : (0 : Int) ≤ (j : Int) := by omega
        have hj1 : (j : Int) < (t.fields.length : Int) := by omega
        have hdj := T.field_depth hlt
        have HFD := Lib.hid (F5.out.at_ hlt).type
        go_wp2_with fail
        go_still_tail 10, (by kernel_rfl)
        change wpList _ _ _ _ _ wr.drew
        go_wp2_with fail
        rw [HD1.out]
        refine (IH.out (t.fields[j]).type (d + 1) g (j * 8 + 2) cur 40 wr.drew S u0 u1 u2 u3 u4 u5 (by omega) HFD.out (by omega) HCUR.out
          ((HAT.out (j * 8 + 2 + 3) (by simp; omega)).trans (by rw [show j * 8 + 2 + 3 = k1.length + 5 from by omega]; simp))
          ((HAT.out (j * 8 + 2 + 4) (by simp; omega)).trans (by rw [show j * 8 + 2 + 4 = k1.length + 6 from by omega]; simp))
          ((HAT.out (j * 8 + 2 + 5) (by simp; omega)).trans (by rw [show j * 8 + 2 + 5 = k1.length + 7 from by omega]; simp))
          (TypeS.keep (w := w) (w' := wr.drew) (fun _ h => h) (fun p hp => by
            have := HS.out _ hp
            exact (World.cell?_of_block (w := w1) (w' := wr) (HBT.out.block p.block (by omega) (fun e => by simp only [Value.ownBlock, Option.some.injEq] at e; omega))).trans (HSH.out.bt.cell this.1 this.2)) HTS.out)
          (fun k hk => by have := HS.out k hk; exact ⟨by show k < wr.heap.size; omega, by omega⟩) (by show s < wr.heap.size; omega) (by show v < wr.heap.size; omega) (by omega) (by omega) csr cvr).mono ?_
        rintro e w2 ⟨rfl, y3, y4, y5, hbx, hcp, hbt2⟩
        have hst := field_step (w1 := w1) hlt HO.out HR1.out HTS.out HCUR.out hl1 hg1 hzr hbx hcp ((But.refl g wr).drew.trans hbt2)
        have HST := Lib.hid hst
        have HBT2 : Hid (ButO (.slice (some ⟨g, 0, none⟩) t.fields.length c4) w1 w2) := HBT.out.step rfl ((But.refl g wr).drew.trans hbt2)
        clear hst hbx hcp hbt2 csr cvr q4r
        go_wp2_with fail
        go_roundw
        case rel => exact ⟨j + 1, _, k2', by omega, by go_num, HST.out.1, HST.out.2, HREST.out, HBT2.out⟩
        case measure => simp [intOf]; omega
      · obtain rfl : j = t.fields.length := by omega
        have e2 : k2 = [] := by
          have := HR2.out
          rw [List.drop_length] at this
          exact this
        have HO4 : Hid (wr.ownsRow w.heap.size 40 8 (.slice A4 t.fields.length c4) t.fields.length k1) := by have := HO.out; rw [e2, List.append_nil] at this; exact this
        have HR4 : Hid (RawFs wr (fun k => w1.heap.size ≤ k ∧ k < wr.heap.size) t.fields k1) := by have := HR1.out; rw [List.take_length] at this; exact this
        have q5r : wr.cell? ⟨b, o + 5, none⟩ = some (.slice A5 t.of.length c5) := (World.cell?_of_block (a := ⟨b, o + 5, none⟩) (HBT.out.block b (by omega) (fun e => by have := l4' _ e; omega))).trans Q5.out
        have HO5 : Hid (wr.ownsRow w.heap.size 26 6 (.slice A5 t.of.length c5) t.of.length ys) := t_ownsRow_same HSH.out.o5 fun k hk => HBT.out.block k (HSH.out.o5.lt k hk).2 (fun e => HSH.out.n45 k e hk)
        clear e2 HO HR1 HR2 q4r q4 q5 csr cvr hlt
        have HEND : Hid (ButO (.slice A4 t.fields.length c4) w1 wr) := HBT.out
        go_wp2_with fail
        obtain ⟨wo, rfl⟩ : ∃ wo : World, wo = wr := ⟨_, rfl⟩
        have l5 := Lib.hid HSH.out.o5.lt
        go_loopw [40] (fun i wr => ∃ (j : Nat) (k1 k2 : List Value), j ≤ t.of.length ∧ i = .int .i64 j ∧ wr.ownsRow w.heap.size 26 6 (.slice A5 t.of.length c5) t.of.length (k1 ++ k2) ∧ RawTs wr (fun k => w1.heap.size ≤ k ∧ k < wr.heap.size) (t.of.take j) k1 ∧ RawTs w S (t.of.drop j) k2 ∧ ButO (.slice A5 t.of.length c5) wo wr) (fun i _ => t.of.length - (intOf i).toNat)
        case atStart => exact ⟨0, [], ys, Nat.zero_le _, rfl, HO5.out, rfl, by simpa using HSH.out.r5, ButO.refl _ _⟩
        case round =>
          obtain ⟨j, k3, k2, hj, rfl, hown, hr1, hr2, hbt⟩ := hrel
          have HO := Lib.hid hown; have HR1 := Lib.hid hr1; have HR2 := Lib.hid hr2; have HBT2 := Lib.hid hbt
          have hzr2 := hbt.size
          have l5' := l5.out
          clear hown hr1 hr2
          have old : Hid (∀ k, k < w.heap.size → k ≠ b → wr.heap[k]? = w.heap[k]?) := fun k hk hkb => (hbt.block k (by omega) (fun e => by have := l5' _ e; omega)).trans ((HBT.out.block k (by omega) (fun e => by have := l4' _ e; omega)).trans (HSH.out.bt.block k hk hkb))
          have csr : wr.cell? ⟨s, 0, none⟩ = some (.func (.func 56) #[] #[]) := (World.cell?_of_block (a := ⟨s, 0, none⟩) (old.out s hs hsb)).trans CSW.out
          have cvr : wr.cell? ⟨v, 0, none⟩ = some (.func (.func 43) #[] #[.pointer (some ⟨s, 0, none⟩), .pointer (some ⟨v, 0, none⟩)]) := (World.cell?_of_block (a := ⟨v, 0, none⟩) (old.out v hv hvb)).trans CVW.out
          have q5n : wr.cell? ⟨b, o + 5, none⟩ = some (.slice A5 t.of.length c5) := (World.cell?_of_block (a := ⟨b, o + 5, none⟩) (hbt.block b (by omega) (fun e => by have := l5' _ e; omega))).trans q5r
          clear hbt q5r
          by_cases hlt : j < t.of.length
          · obtain ⟨g, cap, e, hg, hgl⟩ := HO.out.form (by omega)
            injection e with e1 _ e3
            subst e1; subst e3
            obtain ⟨u0, u1, u2, u3, u4, u5, k2', rfl, hts, hrest⟩ := HR2.out.cut hlt
            obtain ⟨cur, hcur, hat⟩ := row_cur HO.out
            have hl1 := HR1.out.len
            rw [List.length_take, Nat.min_eq_left hj] at hl1
            have hgw : w.heap.size ≤ g := hg
            have hg1 : g < w1.heap.size := (l5' g rfl).2
            have HTS := Lib.hid hts; have HREST := Lib.hid hrest; have HCUR := Lib.hid hcur; have HAT := Lib.hid hat
            clear hts hrest hcur hat
            have hd1 : (d : Int) + 1 = ((d + 1 : Nat) : Int) := by omega
            have HD1 := Lib.hid hd1
            have hw0 : IntKind.i64.wrap ((d : Int) + 1) = ((d + 1 : Nat) : Int) := by rw [hd1]; exact IntWalk.i64_in _ (by omega)
            clear hd1
            have hj0 : (0 : Int) ≤ (j : Int) := by omega
            have hj1 : (j : Int) < (t.of.length : Int) := by omega
            have hdj := T.of_depth hlt
            have HFD := Lib.hid (F6.out.at_ hlt)
            go_wp2_with fail
            go_still_tail 9, (by kernel_rfl)
            change wpList _ _ _ _ _ wr.drew
            go_wp2_with fail
            rw [HD1.out]
            refine (IH.out (t.of[j]) (d + 1) g (j * 6) cur 26 wr.drew S u0 u1 u2 u3 u4 u5 (by omega) HFD.out (by omega) HCUR.out
              ((HAT.out (j * 6 + 3) (by simp; omega)).trans (by rw [show j * 6 + 3 = k3.length + 3 from by omega]; simp))
              ((HAT.out (j * 6 + 4) (by simp; omega)).trans (by rw [show j * 6 + 4 = k3.length + 4 from by omega]; simp))
              ((HAT.out (j * 6 + 5) (by simp; omega)).trans (by rw [show j * 6 + 5 = k3.length + 5 from by omega]; simp))
              (TypeS.keep (w := w) (w' := wr.drew) (fun _ h => h) (fun p hp => by
                have := HS.out _ hp
                exact World.cell?_of_block (w := w) (w' := wr) (old.out p.block this.1 this.2)) HTS.out)
              (fun k hk => by have := HS.out k hk; exact ⟨by show k < wr.heap.size; omega, by omega⟩) (by show s < wr.heap.size; omega) (by show v < wr.heap.size; omega) (by omega) (by omega) csr cvr).mono ?_
            rintro e w2 ⟨rfl, y3, y4, y5, hbx, hcp, hbt2⟩
            have hst := type_step (w1 := w1) hlt HO.out HR1.out HTS.out HCUR.out hl1 hg1 (by omega) hbx hcp ((But.refl g wr).drew.trans hbt2)
            have HST := Lib.hid hst
            have HBT3 : Hid (ButO (.slice (some ⟨g, 0, none⟩) t.of.length c5) wo w2) := HBT2.out.step rfl ((But.refl g wr).drew.trans hbt2)
            clear hst hbx hcp hbt2 csr cvr q5n
            go_wp2_with fail
            go_roundw
            case rel => exact ⟨j + 1, _, k2', by omega, by go_num, HST.out.1, HST.out.2, HREST.out, HBT3.out⟩
            case measure => simp [intOf]; omega
          · obtain rfl : j = t.of.length := by omega
            have e2 : k2 = [] := by
              have := HR2.out
              rw [List.drop_length] at this
              exact this
            have HO5' : Hid (wr.ownsRow w.heap.size 26 6 (.slice A5 t.of.length c5) t.of.length k3) := by have := HO.out; rw [e2, List.append_nil] at this; exact this
            have HR5 : Hid (RawTs wr (fun k => w1.heap.size ≤ k ∧ k < wr.heap.size) t.of k3) := by have := HR1.out; rw [List.take_length] at this; exact this
            clear e2 HO HR1 HR2 csr cvr q5n hlt
            go_wp2_with fail
            go_ret
            have l3 := HSH.out.o3.lt
            have far : ∀ k, k < w1.heap.size → (Value.slice A4 t.fields.length c4).ownBlock ≠ some k → (Value.slice A5 t.of.length c5).ownBlock ≠ some k → wr.heap[k]? = w1.heap[k]? := fun k h1 h2 h3 => (HBT2.out.block k (by omega) h3).trans (HBT.out.block k h1 h2)
            refine ⟨rfl, _, _, _, (far b (by omega) (fun e => by have := l4' _ e; omega) (fun e => by have := l5' _ e; omega)).trans HSH.out.box, ⟨k1, k3, by omega, ?_, ?_, HO5'.out, ?_, HR5.out.keep (fun k hk => ⟨by omega, hk.2, fun e => by have := l3 k e; omega, fun e => by have := l4' k e; omega, fun e => by have := l5' k e; omega⟩) fun _ _ => rfl, HSH.out.n34, HSH.out.n35, HSH.out.n45⟩, ?_⟩
            · exact t_ownsRow_same HSH.out.o3 fun k hk => far k (l3 k hk).2 (HSH.out.n34 k hk) (HSH.out.n35 k hk)
            · exact t_ownsRow_same HO4.out fun k hk => HBT2.out.block k (HO4.out.lt k hk).2 (HSH.out.n45 k hk)
            · exact HR4.out.keep (fun k hk => ⟨by omega, by omega, fun e => by have := l3 k e; omega, fun e => by have := l4' k e; omega, fun e => by have := l5' k e; omega⟩) fun p hp => World.cell?_of_block (HBT2.out.block p.block hp.2 (fun e => by have := l5' _ e; omega))
            · exact ⟨HBT2.out.os.trans (HBT.out.os.trans HSH.out.bt.os), HBT2.out.tape.trans (HBT.out.tape.trans HSH.out.bt.tape), HBT2.out.output.trans (HBT.out.output.trans HSH.out.bt.output), by omega, old.out⟩
end Go.Proofs.YtnjmknofojjlmaaDoor
