/-
  schema.over: a closure that calls itself, over each part of a type; 'see' counts in a captured number.
  schema.over, Size and Depth.
  Variables of types and of fields.
-/
import Derived.Test.YteecdmceleanjaaGreatDoorProg
import Derived.Test.YteecdmceleanjaaGreatDoorB01
import Derived.Lib.Hide
import Derived.StillTailTactics
import Derived.Deep.QuietTactic
import Derived.BigQuiet
import Derived.IntWalk
import Derived.Laws.EntriesVeiled
import Derived.Shelf.Abstract
namespace Go.Proofs.YteecdmceleanjaaGreatDoor
open Go.RowKit

/-- All but the block c is as it was. -/
structure But (c : Nat) (w w' : World) : Prop where
  os : w'.os = w.os
  tape : w'.tape = w.tape
  output : w'.output = w.output
  size : w.heap.size ≤ w'.heap.size
  block : ∀ k, k < w.heap.size → k ≠ c → w'.heap[k]? = w.heap[k]?
theorem But.refl (c : Nat) (w : World) : But c w w := ⟨rfl, rfl, rfl, Nat.le_refl _, fun _ _ _ => rfl⟩
theorem But.trans {c : Nat} {a b d : World} (h : But c a b) (k : But c b d) : But c a d :=
  ⟨k.os.trans h.os, k.tape.trans h.tape, k.output.trans h.output, Nat.le_trans h.size k.size, fun i hi hc => (k.block i (Nat.lt_of_lt_of_le hi h.size) hc).trans (h.block i hi hc)⟩
theorem But.drew {c : Nat} {w w' : World} (h : But c w w') : But c w w'.drew := ⟨h.os, h.tape, h.output, h.size, h.block⟩
theorem But.drewN {c : Nat} {w w' : World} (h : But c w w') (n : Nat) : But c w (w'.drewN n) := ⟨h.os, h.tape, h.output, h.size, h.block⟩
theorem But.setCell {c : Nat} {w w' : World} (h : But c w w') (i : Nat) (u : Value) : But c w (w'.setCell ⟨c, i, none⟩ u) :=
  h.trans ⟨rfl, rfl, rfl, by simp [World.setCell], fun k _ hc => Below.heap_setCell _ _ _ k hc⟩
theorem But.of_below {c : Nat} {w w' : World} (h : Below w.heap.size w w') : But c w w' := ⟨h.os, h.tape, h.output, h.size, fun k hk _ => h.block k hk⟩
theorem But.below {c B : Nat} {w w' : World} (h : But c w w') (hB : B ≤ c) (hw : B ≤ w.heap.size) : Below B w w' := ⟨h.os, h.tape, h.output, h.size, fun k hk => h.block k (by omega) (by omega)⟩
theorem But.cell {c : Nat} {w w' : World} (h : But c w w') {p : Addr} (hp : p.block < w.heap.size) (hc : p.block ≠ c) : w'.cell? p = w.cell? p := World.cell?_of_block (w := w) (h.block p.block hp hc)
theorem But.frozen {c : Nat} {w w' : World} (h : But c w w') {p : Addr} (hp : p.block < w.heap.size) (hc : p.block ≠ c) : w'.frozen? p = w.frozen? p := World.frozen?_of_block (w := w) (h.block p.block hp hc)
/-- A captured number. -/
def Num (w : World) (c : Nat) (n : Int) : Prop := w.heap[c]? = some (.cells #[.int .i64 n] 3 (0, 0))
theorem Num.cell {w : World} {c : Nat} {n : Int} (h : Num w c n) : w.cell? ⟨c, 0, none⟩ = some (.int .i64 n) := cell_of_row w c 0 _ _ _ h
theorem Num.frozen {w : World} {c : Nat} {n : Int} (h : Num w c n) : w.frozen? ⟨c, 0, none⟩ = false := by unfold Num at h; simp [World.frozen?, h]
theorem Num.set {w : World} {c : Nat} {n : Int} (h : Num w c n) (m : Int) : Num (w.setCell ⟨c, 0, none⟩ (.int .i64 m)) c m := by
  unfold Num at h ⊢
  simp [World.setCell, Array.getElem?_modify, h]
theorem Num.lt {w : World} {c : Nat} {n : Int} (h : Num w c n) : c < w.heap.size := by
  rcases Nat.lt_or_ge c w.heap.size with hlt | hge
  · exact hlt
  · unfold Num at h; rw [Array.getElem?_eq_none hge] at h; cases h
theorem Num.same {w w' : World} {c : Nat} {n : Int} (h : Num w c n) (hs : w'.heap[c]? = w.heap[c]?) : Num w' c n := hs.trans h
/-- A row is gone over until one is refused. -/
def walkL (f : Int → T → Int × Bool) : Int → List T → Int × Bool
  | n, [] => (n, true)
  | n, t :: r => if (f n t).2 = true then walkL f (f n t).1 r else ((f n t).1, false)
def goT (step : Int → T → Nat → Int × Bool) : Nat → Int → T → Nat → Int × Bool
  | 0, n, _, _ => (n, false)
  | m + 1, n, t, d => if (step n t d).2 = true then walkL (fun n t => goT step m n t (d + 1)) (step n t d).1 t.kids else ((step n t d).1, false)
theorem walkL_append (f : Int → T → Int × Bool) : ∀ (a b : List T) (n p : Int), walkL f n a = (p, true) → walkL f n (a ++ b) = walkL f p b
  | [], b, n, p, h => by simp only [walkL] at h; injection h with h1; subst h1; rfl
  | t :: r, b, n, p, h => by
    simp only [walkL, List.cons_append] at h ⊢
    by_cases ht : (f n t).2 = true
    · rw [if_pos ht] at h ⊢
      exact walkL_append f r b _ _ h
    · rw [if_neg ht] at h
      injection h with h1 h2; cases h2
theorem walkL_more {f : Int → T → Int × Bool} {l : List T} {k : Nat} (hk : k < l.length) {n p q : Int} (h : walkL f n (l.take k) = (p, true)) (hq : f p l[k] = (q, true)) : walkL f n (l.take (k + 1)) = (q, true) := by
  rw [List.take_succ_eq_append_getElem hk, walkL_append f _ _ _ _ h]
  simp [walkL, hq]
theorem walkL_stop {f : Int → T → Int × Bool} {l : List T} {k : Nat} (hk : k < l.length) {n p q : Int} (h : walkL f n (l.take k) = (p, true)) (hq : f p l[k] = (q, false)) : walkL f n l = (q, false) := by
  have e : l = l.take k ++ (l[k] :: l.drop (k + 1)) := by simp
  rw [e, walkL_append f _ _ _ _ h]
  simp [walkL, hq]
theorem walkL_stop_append {f : Int → T → Int × Bool} : ∀ {a : List T} (b : List T) {n q : Int}, walkL f n a = (q, false) → walkL f n (a ++ b) = (q, false)
  | [], b, n, q, h => by simp [walkL] at h
  | t :: r, b, n, q, h => by
    simp only [walkL, List.cons_append] at h ⊢
    by_cases ht : (f n t).2 = true
    · rw [if_pos ht] at h ⊢
      exact walkL_stop_append b h
    · rw [if_neg ht] at h ⊢
      exact h

theorem field_take {l : List F} {j : Nat} (h : j < l.length) : T.sizes ((l.map F.type).take (j + 1)) = T.sizes ((l.map F.type).take j) + (l[j]).type.size := by
  rw [T.sizes_take_succ _ j (by simpa using h), List.getElem_map]
theorem walkF_more {f : Int → T → Int × Bool} {l : List F} {k : Nat} (hk : k < l.length) {n p q : Int} (h : walkL f n ((l.map F.type).take k) = (p, true)) (hq : f p (l[k]).type = (q, true)) : walkL f n ((l.map F.type).take (k + 1)) = (q, true) :=
  walkL_more (by simpa using hk) h (by rw [List.getElem_map]; exact hq)
theorem walkF_stop {f : Int → T → Int × Bool} {l : List F} {k : Nat} (hk : k < l.length) {n p q : Int} (h : walkL f n ((l.map F.type).take k) = (p, true)) (hq : f p (l[k]).type = (q, false)) : walkL f n (l.map F.type) = (q, false) :=
  walkL_stop (by simpa using hk) h (by rw [List.getElem_map]; exact hq)
/-- What 'see' must do: turn the captured number, and tell. -/
def Sees (step : Int → T → Nat → Int × Bool) (G : Nat) (c B : Nat) : Prop :=
  ∀ (n : Int) (t : T) (d b o : Nat) (w : World), Num w c n → 0 ≤ n → n ≤ 20000 → d ≤ 1000 → t.Fit → b < B → TypeAt w B b o t →
    Calls Tryz.prog G #[.pointer (some ⟨b, o, none⟩), .int .i64 (d : Int), .pointer (some ⟨c, 0, none⟩)] w fun e w' => e = .returned (.bool (step n t d).2) ∧ Num w' c (step n t d).1 ∧ But c w w'
def Bounded (step : Int → T → Nat → Int × Bool) : Prop := ∀ (n : Int) (t : T) (d : Nat), 0 ≤ n → d ≤ 1000 → 0 ≤ (step n t d).1 ∧ (step n t d).1 ≤ max (n + 1) 1000
set_option maxHeartbeats 4000000 in
set_option maxRecDepth 100000 in
theorem visit_any {step : Int → T → Nat → Int × Bool} {G c B s v : Nat} (eg : ∀ args w, (callFunc G args).run Tryz.prog w = .ok (.enter G args) w) (hsee : Sees step G c B) (hbd : Bounded step) (hBc : B ≤ c) (hsc : s ≠ c) (hvc : v ≠ c) (m : Nat) :
    ∀ (n : Int) (t : T) (d k b o : Nat) (w : World), t.depth ≤ m → Num w c n → 0 ≤ n → n ≤ 1000 + k → k + t.size ≤ 10000 → d + t.depth ≤ 1000 → t.Fit → b < B → TypeAt w B b o t → s < w.heap.size → v < w.heap.size →
      w.cell? ⟨s, 0, none⟩ = some (.func (.func G) #[] #[.pointer (some ⟨c, 0, none⟩)]) → w.cell? ⟨v, 0, none⟩ = some (.func (.func 78) #[] #[.pointer (some ⟨s, 0, none⟩), .pointer (some ⟨v, 0, none⟩)]) →
      Calls Tryz.prog 78 #[.pointer (some ⟨b, o, none⟩), .int .i64 (d : Int), .pointer (some ⟨s, 0, none⟩), .pointer (some ⟨v, 0, none⟩)] w fun e w' =>
        e = .returned (.bool (goT step m n t d).2) ∧ Num w' c (goT step m n t d).1 ∧ But c w w' ∧ 0 ≤ (goT step m n t d).1 ∧ (goT step m n t d).1 ≤ 1000 + k + t.size := by
  induction m with
  | zero => intro n t; intro _ _ _ _ _ h; have := t.depth_pos; omega
  | succ m ih =>
    intro n t d k b o w hm hn hn0 hnk hk hd hf hb ht hs hv cs cv
    have HS := Lib.hid hsee; have HB := Lib.hid hbd; have IH := Lib.hid ih; have HF := Lib.hid hf; have HT := Lib.hid ht; have HN := Lib.hid hn
    clear hsee hbd ih hf hn ht
    have hsz := T.size_eq t
    have hdp := T.depth_eq t
    have hcl := HN.out.lt
    go_enter Tryz.func78, Tryz.ntmps78
    go_wp2_with fail
    refine (HS.out n t d b o _ HN.out hn0 (by omega) (by omega) HF.out hb HT.out).mono ?_
    rintro e w1 ⟨rfl, hn1, hb1⟩
    have hB1 := HB.out n t d hn0 (by omega)
    obtain ⟨⟨q, ok⟩, hst⟩ : ∃ r, r = step n t d := ⟨_, rfl⟩
    rw [← hst] at hn1 hB1
    have HST := Lib.hid hst
    simp only [] at hn1 hB1
    rw [← hst]
    clear hst
    have hz1 := hb1.size
    cases ok with
    | false =>
      have HR : Hid (goT step (m + 1) n t d = (q, false)) := by show goT step (m + 1) n t d = (q, false); unfold goT; rw [← HST.out]; simp
      go_wp2_with fail
      go_ret
      rw [HR.out]
      exact ⟨rfl, hn1, hb1, hB1.1, by have := t.size_pos; simp only; omega⟩
    | true =>
      have HN1 := Lib.hid hn1; have HB1 := Lib.hid hb1
      have hq0 := hB1.1; have hq1 : q ≤ 1000 + (k + 1 : Nat) := by have := hB1.2; omega
      have kp : ∀ p : Addr, p.block < B → w1.cell? p = w.cell? p := fun p hp => hb1.cell (by omega) (by omega)
      have ht1 := HT.out.keep (Nat.le_refl _) kp hb
      have cs1 : w1.cell? ⟨s, 0, none⟩ = some (.func (.func G) #[] #[.pointer (some ⟨c, 0, none⟩)]) := (hb1.cell (by exact hs) hsc).trans cs
      have cv1 : w1.cell? ⟨v, 0, none⟩ = some (.func (.func 78) #[] #[.pointer (some ⟨s, 0, none⟩), .pointer (some ⟨v, 0, none⟩)]) := (hb1.cell (by exact hv) hvc).trans cv
      have CS1 := Lib.hid cs1; have CV1 := Lib.hid cv1
      have HT1 := Lib.hid ht1
      obtain ⟨v0, v1, v2, v3, v4, v5, c0, c1, c2, c3, c4, c5, hin⟩ := ht1
      have HFV := Lib.hid hin.fields_; have HOV := Lib.hid hin.of_
      obtain ⟨A3, d3, A4, d4, A5, d5, rfl, rfl, rfl, rfl, rfl, rfl⟩ := hin.forms
      have C5 := Lib.hid c5
      clear hn1 hb1 hB1 kp cs1 cv1 cs cv hin c0 c1 c2 c3
      have hlf := T.len_le_sizes (t.fields.map F.type)
      rw [List.length_map] at hlf
      have hlo := T.len_le_sizes t.of
      go_wp2_with fail
      go_loopw [19] (fun i wr => ∃ (j : Nat) (p : Int), j ≤ t.fields.length ∧ i = .int .i64 j ∧ walkL (fun n t => goT step m n t (d + 1)) q ((t.fields.map F.type).take j) = (p, true) ∧ Num wr c p ∧ 0 ≤ p ∧ p ≤ 1000 + (k + 1 + T.sizes ((t.fields.map F.type).take j) : Nat) ∧ But c w1 wr) (fun i _ => t.fields.length - (intOf i).toNat)
      case atStart => exact ⟨0, q, Nat.zero_le _, rfl, rfl, HN1.out, hq0, by simp [T.sizes]; omega, But.refl _ _⟩
      case round =>
        obtain ⟨j, p, hj, rfl, hw, hnr, hp0, hp1, hbr⟩ := hrel
        have HW := Lib.hid hw; have HNR := Lib.hid hnr; have HBR := Lib.hid hbr
        have hzr := hbr.size
        have kp : ∀ p : Addr, p.block < B → wr.cell? p = w1.cell? p := fun p hp => hbr.cell (by omega) (by omega)
        have csr : wr.cell? ⟨s, 0, none⟩ = some (.func (.func G) #[] #[.pointer (some ⟨c, 0, none⟩)]) := (hbr.cell (by show s < _; omega) hsc).trans CS1.out
        have cvr : wr.cell? ⟨v, 0, none⟩ = some (.func (.func 78) #[] #[.pointer (some ⟨s, 0, none⟩), .pointer (some ⟨v, 0, none⟩)]) := (hbr.cell (by show v < _; omega) hvc).trans CV1.out
        have c4r := (kp ⟨b, o + 4, none⟩ hb).trans c4
        by_cases hlt : j < t.fields.length
        · obtain ⟨A, cc, e, _, hfi⟩ := HFV.out
          obtain ⟨bf, off, rfl, hbf, hfj⟩ := hfi (by omega)
          injection e with e1 _ e3
          subst e1
          have hat := FieldsIn.at_ hfj j hlt
          rw [Nat.zero_add] at hat
          have htr := hat.2.2.keep (Nat.le_refl _) kp hbf
          have HTR := Lib.hid htr
          clear hw hnr hbr hat hfi hfj htr kp e3 c4 c5
          have hd1 : (d : Int) + 1 = ((d + 1 : Nat) : Int) := by omega
          have HD1 := Lib.hid hd1
          have hw0 : IntKind.i64.wrap ((d : Int) + 1) = ((d + 1 : Nat) : Int) := by rw [hd1]; exact IntWalk.i64_in _ (by omega)
          clear hd1
          have hj0 : (0 : Int) ≤ (j : Int) := by omega
          have hj1 : (j : Int) < (t.fields.length : Int) := by omega
          go_wp2_with fail
          go_still_tail 10, (by kernel_rfl)
          change wpList _ _ _ _ _ wr.drew
          have hdj := T.field_depth hlt
          have hts := field_take hlt
          have htl := T.sizes_take_le (t.fields.map F.type) (j + 1)
          have htr := TypeAt.keep (w := wr) (w' := wr.drew) (B' := B) (t := (t.fields[j]).type) (Nat.le_refl _) (fun _ _ => rfl) hbf HTR.out
          have hfd := (HF.out.parts.2.2.2.2.1.at_ hlt).type
          have HFD := Lib.hid hfd; have HTD := Lib.hid htr
          have HTS := Lib.hid hts
          clear hfd htr hts
          go_wp2_with fail
          rw [HD1.out]
          refine (IH.out p (t.fields[j]).type (d + 1) (k + 1 + T.sizes ((t.fields.map F.type).take j)) bf (off + j * 8 + 2) wr.drew (by omega) HNR.out hp0 hp1 (by have := HTS.out; omega) (by omega) HFD.out hbf HTD.out (by show s < wr.heap.size; omega) (by show v < wr.heap.size; omega) csr cvr).mono ?_
          rintro e w2 ⟨rfl, hn2, hb2, h0, h1⟩
          obtain ⟨⟨q2, ok⟩, hg⟩ : ∃ r, r = goT step m p (t.fields[j]).type (d + 1) := ⟨_, rfl⟩
          rw [← hg] at hn2 h0 h1 ⊢
          have HGO := Lib.hid hg.symm
          simp only [] at hn2 h0 h1
          have hb3 : But c w1 w2 := HBR.out.trans ((But.refl c wr).drew.trans hb2)
          clear hg hb2 csr cvr
          cases ok with
          | true =>
            go_wp2_with fail
            go_roundw
            case rel => exact ⟨j + 1, q2, by omega, by go_num, walkF_more hlt HW.out HGO.out, hn2, h0, by have := HTS.out; omega, hb3⟩
            case measure => simp [intOf]; omega
          | false =>
            have HR : Hid (goT step (m + 1) n t d = (q2, false)) := by
              show goT step (m + 1) n t d = (q2, false)
              unfold goT; rw [← HST.out]; simp only [if_true]
              exact walkL_stop_append _ (walkF_stop hlt HW.out HGO.out)
            go_wp2_with fail
            go_ret
            rw [HR.out]
            exact ⟨rfl, hn2, HB1.out.trans hb3, h0, by have := HTS.out; simp only; omega⟩
        · obtain rfl : j = t.fields.length := by omega
          have c5r := (kp ⟨b, o + 5, none⟩ hb).trans c5
          have htk : (t.fields.map F.type).take t.fields.length = t.fields.map F.type := List.take_of_length_le (by simp)
          have HWF : Hid (walkL (fun n t => goT step m n t (d + 1)) q (t.fields.map F.type) = (p, true)) := by have := HW.out; rw [htk] at this; exact this
          rw [htk] at hp1
          clear hw hnr hbr kp c4 c5 c4r htk HW hlt csr cvr
          go_wp2_with fail
          obtain ⟨wo, rfl⟩ : ∃ wo : World, wo = wr := ⟨_, rfl⟩
          go_loopw [40] (fun i wr => ∃ (j : Nat) (p2 : Int), j ≤ t.of.length ∧ i = .int .i64 j ∧ walkL (fun n t => goT step m n t (d + 1)) p (t.of.take j) = (p2, true) ∧ Num wr c p2 ∧ 0 ≤ p2 ∧ p2 ≤ 1000 + (k + 1 + T.sizes (t.fields.map F.type) + T.sizes (t.of.take j) : Nat) ∧ But c w1 wr) (fun i _ => t.of.length - (intOf i).toNat)
          case atStart => exact ⟨0, p, Nat.zero_le _, rfl, rfl, HNR.out, hp0, by simp [T.sizes]; omega, HBR.out⟩
          case round =>
            clear HNR HBR hzr hp0 hp1 c5r
            obtain ⟨j, p2, hj, rfl, hw, hnr, hp0, hp1, hbr⟩ := hrel
            have HW := Lib.hid hw; have HNR := Lib.hid hnr; have HBR := Lib.hid hbr
            have hzr := hbr.size
            have kp : ∀ p : Addr, p.block < B → wr.cell? p = w1.cell? p := fun p hp => hbr.cell (by omega) (by omega)
            have csr : wr.cell? ⟨s, 0, none⟩ = some (.func (.func G) #[] #[.pointer (some ⟨c, 0, none⟩)]) := (hbr.cell (by show s < _; omega) hsc).trans CS1.out
            have cvr : wr.cell? ⟨v, 0, none⟩ = some (.func (.func 78) #[] #[.pointer (some ⟨s, 0, none⟩), .pointer (some ⟨v, 0, none⟩)]) := (hbr.cell (by show v < _; omega) hvc).trans CV1.out
            by_cases hlt : j < t.of.length
            · obtain ⟨A, cc, e, _, hfi⟩ := HOV.out
              obtain ⟨bf, off, rfl, hbf, hfj⟩ := hfi (by omega)
              injection e with e1 _ e3
              subst e1
              have hat := TypesIn.at_ hfj j hlt
              rw [Nat.zero_add] at hat
              have htr := hat.keep (Nat.le_refl _) kp hbf
              have htd := TypeAt.keep (w := wr) (w' := wr.drew) (B' := B) (t := t.of[j]) (Nat.le_refl _) (fun _ _ => rfl) hbf htr
              have HTD := Lib.hid htd
              have c5r := (kp ⟨b, o + 5, none⟩ hb).trans C5.out
              clear hw hnr hbr hat hfi hfj htr htd kp e3
              have hd1 : (d : Int) + 1 = ((d + 1 : Nat) : Int) := by omega
              have HD1 := Lib.hid hd1
              have hw0 : IntKind.i64.wrap ((d : Int) + 1) = ((d + 1 : Nat) : Int) := by rw [hd1]; exact IntWalk.i64_in _ (by omega)
              clear hd1
              have hj0 : (0 : Int) ≤ (j : Int) := by omega
              have hj1 : (j : Int) < (t.of.length : Int) := by omega
              have hdj := T.of_depth hlt
              have hts := T.sizes_take_succ t.of j hlt
              have htl := T.sizes_take_le t.of (j + 1)
              have hfd := HF.out.parts.2.2.2.2.2.at_ hlt
              have HFD := Lib.hid hfd
              have HTS := Lib.hid hts
              clear hfd hts
              go_wp2_with fail
              go_still_tail 9, (by kernel_rfl)
              change wpList _ _ _ _ _ wr.drew
              go_wp2_with fail
              rw [HD1.out]
              refine (IH.out p2 (t.of[j]) (d + 1) (k + 1 + T.sizes (t.fields.map F.type) + T.sizes (t.of.take j)) bf (off + j * 6) wr.drew (by omega) HNR.out hp0 hp1 (by have := HTS.out; omega) (by omega) HFD.out hbf HTD.out (by show s < wr.heap.size; omega) (by show v < wr.heap.size; omega) csr cvr).mono ?_
              rintro e w2 ⟨rfl, hn2, hb2, h0, h1⟩
              obtain ⟨⟨q2, ok⟩, hg⟩ : ∃ r, r = goT step m p2 (t.of[j]) (d + 1) := ⟨_, rfl⟩
              rw [← hg] at hn2 h0 h1 ⊢
              have HGO := Lib.hid hg.symm
              simp only [] at hn2 h0 h1
              have hb3 : But c w1 w2 := HBR.out.trans ((But.refl c wr).drew.trans hb2)
              clear hg hb2 csr cvr
              cases ok with
              | true =>
                go_wp2_with fail
                go_roundw
                case rel => exact ⟨j + 1, q2, by omega, by go_num, walkL_more hlt HW.out HGO.out, hn2, h0, by have := HTS.out; omega, hb3⟩
                case measure => simp [intOf]; omega
              | false =>
                have HR : Hid (goT step (m + 1) n t d = (q2, false)) := by
                  show goT step (m + 1) n t d = (q2, false)
                  unfold goT; rw [← HST.out]; simp only [if_true]
                  show walkL _ _ (t.fields.map F.type ++ t.of) = _
                  rw [walkL_append _ _ _ _ _ HWF.out]
                  exact walkL_stop hlt HW.out HGO.out
                go_wp2_with fail
                go_ret
                rw [HR.out]
                exact ⟨rfl, hn2, HB1.out.trans hb3, h0, by have := HTS.out; simp only; omega⟩
            · have hjl : j = t.of.length := by omega
              have HR : Hid (goT step (m + 1) n t d = (p2, true)) := by
                show goT step (m + 1) n t d = (p2, true)
                unfold goT; rw [← HST.out]; simp only [if_true]
                show walkL _ _ (t.fields.map F.type ++ t.of) = _
                rw [walkL_append _ _ _ _ _ HWF.out]
                have := HW.out
                rw [List.take_of_length_le (by omega)] at this
                exact this
              have htl := T.sizes_take_le t.of j
              clear hw hnr hbr kp csr cvr hjl
              go_wp2_with fail
              go_ret
              rw [HR.out]
              exact ⟨rfl, HNR.out, HB1.out.trans HBR.out, hp0, by simp only; omega⟩
end Go.Proofs.YteecdmceleanjaaGreatDoor
namespace Go.Proofs.YteecdmceleanjaaGreatDoor
open Go.RowKit

set_option maxHeartbeats 2000000 in
set_option maxRecDepth 100000 in
theorem over_any {step : Int → T → Nat → Int × Bool} {G c B : Nat} (eg : ∀ args w, (callFunc G args).run Tryz.prog w = .ok (.enter G args) w) (hsee : Sees step G c B) (hbd : Bounded step) (hBc : B ≤ c) (m : Nat) (n : Int) (t : T) (b o : Nat) (w : World)
    (hm : t.depth ≤ m) (hn : Num w c n) (hn0 : 0 ≤ n) (hn1 : n ≤ 1000) (hk : t.size ≤ 10000) (hd : t.depth ≤ 900) (hf : t.Fit) (hb : b < B) (ht : TypeAt w B b o t) :
    Calls Tryz.prog 47 #[.pointer (some ⟨b, o, none⟩), .func (.func G) #[] #[.pointer (some ⟨c, 0, none⟩)]] w fun e w' => e = .returned (.bool (goT step m n t 1).2) ∧ Num w' c (goT step m n t 1).1 ∧ But c w w' := by
  have hcl := hn.lt
  have HV := Lib.hid fun (W : World) => visit_any (s := w.heap.size) (v := w.heap.size + 1) eg hsee hbd hBc (by omega) (by omega) m n t 1 0 b o W hm
  have hmf : ∀ (fn : Fn) (first cap : Array Value) (w : World), (Instr.makeFunc fn first cap).run Tryz.prog w = .ok (.func fn first cap) w := fun _ _ _ _ => rfl
  have HN := Lib.hid hn; have HT := Lib.hid ht; have HF := Lib.hid hf
  clear hsee hbd hn ht eg hf
  go_enter Tryz.func47, Tryz.ntmps47
  go_wp2_with fail
  have hbl : Below w.heap.size w ((w.alloc (.cells #[.func (.func G) #[] #[.pointer (some ⟨c, 0, none⟩)]] 67)).alloc (.cells #[.func (.func 78) #[] #[.pointer (some ⟨w.heap.size, 0, none⟩), .pointer (some ⟨w.heap.size + 1, 0, none⟩)]] 67)) := ((Below.refl _ _).alloc (Nat.le_refl _) _).alloc (by simp) _
  have HBL := Lib.hid hbl
  clear hbl
  refine (HV.out _ (HN.out.same (HBL.out.block c hcl)) hn0 (by omega) (by omega) (by omega) HF.out hb (HT.out.keep (Nat.le_refl _) (fun p hp => HBL.out.cell (by omega)) hb) (by simp; omega) (by simp) (by go_simp) (by go_simp)).mono ?_
  rintro e w1 ⟨rfl, hn2, hb2, -, -⟩
  have HN2 := Lib.hid hn2
  have HB2 : Hid (But c w w1) := (But.of_below HBL.out).trans hb2
  clear hn2 hb2 HBL
  go_wp2_with fail
  go_ret
  exact ⟨rfl, HN2.out, HB2.out⟩

def sizeStep (n : Int) (_ : T) (_ : Nat) : Int × Bool := (n + 1, true)
def depthStep (n : Int) (_ : T) (d : Nat) : Int × Bool := (max n d, true)
/-- A type's variable. -/
def Box6 (w : World) (b : Nat) (v0 v1 v2 v3 v4 v5 : Value) : Prop := w.heap[b]? = some (.cells #[v0, v1, v2, v3, v4, v5] 26 (0, 0))
section
variable {w w' : World} {b : Nat} {v0 v1 v2 v3 v4 v5 : Value}
theorem Box6.lt (h : Box6 w b v0 v1 v2 v3 v4 v5) : b < w.heap.size := by
  rcases Nat.lt_or_ge b w.heap.size with hlt | hge
  · exact hlt
  · unfold Box6 at h; rw [Array.getElem?_eq_none hge] at h; cases h
theorem Box6.cells (h : Box6 w b v0 v1 v2 v3 v4 v5) : w.cell? ⟨b, 0, none⟩ = some v0 ∧ w.cell? ⟨b, 1, none⟩ = some v1 ∧ w.cell? ⟨b, 2, none⟩ = some v2 ∧ w.cell? ⟨b, 3, none⟩ = some v3 ∧ w.cell? ⟨b, 4, none⟩ = some v4 ∧ w.cell? ⟨b, 5, none⟩ = some v5 :=
  ⟨cell_of_row w b 0 _ _ _ h, cell_of_row w b 1 _ _ _ h, cell_of_row w b 2 _ _ _ h, cell_of_row w b 3 _ _ _ h, cell_of_row w b 4 _ _ _ h, cell_of_row w b 5 _ _ _ h⟩
theorem Box6.frozen (h : Box6 w b v0 v1 v2 v3 v4 v5) (i : Nat) : w.frozen? ⟨b, i, none⟩ = false := by
  unfold Box6 at h
  simp [World.frozen?, h]
theorem Box6.new (w : World) (v0 v1 v2 v3 v4 v5 : Value) : Box6 (w.alloc (.cells #[v0, v1, v2, v3, v4, v5] 26)) w.heap.size v0 v1 v2 v3 v4 v5 := heap_alloc_new w _
theorem Box6.same (h : Box6 w b v0 v1 v2 v3 v4 v5) (hs : w'.heap[b]? = w.heap[b]?) : Box6 w' b v0 v1 v2 v3 v4 v5 := hs.trans h
theorem Box6.at_ {B : Nat} {t : T} (h : Box6 w b v0 v1 v2 v3 v4 v5) (hi : TypeIn w B t v0 v1 v2 v3 v4 v5) : TypeAt w B b 0 t := by
  obtain ⟨c0, c1, c2, c3, c4, c5⟩ := h.cells
  exact ⟨v0, v1, v2, v3, v4, v5, c0, c1, c2, c3, c4, c5, hi⟩
end
theorem boxed_at {w : World} {B : Nat} {t : T} {v0 v1 v2 v3 v4 v5 : Value} (hB : B ≤ w.heap.size) (h : TypeIn w B t v0 v1 v2 v3 v4 v5) : TypeAt (w.alloc (.cells #[v0, v1, v2, v3, v4, v5] 26)) (w.heap.size + 1) w.heap.size 0 t :=
  (Box6.new w v0 v1 v2 v3 v4 v5).at_ (h.keep (by omega) fun p hp => World.cell?_alloc_lt w _ p (by omega))
theorem num_new (w : World) (n : Int) : Num (w.alloc (.cells #[.int .i64 n] 3)) w.heap.size n := heap_alloc_new w _
end Go.Proofs.YteecdmceleanjaaGreatDoor
namespace Go.Proofs.YteecdmceleanjaaGreatDoor
open Go.RowKit

theorem size_setCell (w : World) (a : Addr) (x : Value) : (w.setCell a x).heap.size = w.heap.size := by simp [World.setCell]
theorem cell_block {w : World} {b : Nat} {arr : Array Value} {ty : TypeId} (hb : w.heap[b]? = some (.cells arr ty (0, 0))) (i : Nat) : w.cell? ⟨b, i, none⟩ = arr[i]? := by simp [World.cell?, hb]
theorem free_block {w : World} {b : Nat} {arr : Array Value} {ty : TypeId} (hb : w.heap[b]? = some (.cells arr ty (0, 0))) (i : Nat) : w.frozen? ⟨b, i, none⟩ = false := by simp [World.frozen?, hb]
theorem size_block {w : World} {b : Nat} {o : Obj} (hb : w.heap[b]? = some o) : b < w.heap.size := by
  rcases Nat.lt_or_ge b w.heap.size with h | h
  · exact h
  · rw [Array.getElem?_eq_none h] at hb; cases hb
theorem ret_cell6 {P : Program} {fn : Func} {R : Ending → World → Prop} {a : Act} {w : World} {b : Nat} {t : Tmp} {v0 v1 v2 v3 v4 v5 : Value} {T : TypeId} (hres : fn.results = #[.cell t T]) (hslot : a.tmps.getD t undef = .pointer (some ⟨b, 0, none⟩))
    (hload : (loadVar T ⟨b, 0, none⟩).run P w = .ok (.agg #[v0, v1, v2, v3, v4, v5]) w) (hd : a.defers = []) (hR : R (.returned (.agg #[v0, v1, v2, v3, v4, v5])) w) : bodyPost P fn R .ret a w :=
  bodyPost_ret (v := .agg #[v0, v1, v2, v3, v4, v5]) (by rw [Array.getD_eq_getD_getElem?] at hslot; simp [results, hres, hslot, asAddr, hload]) hd hR
section
variable {w w' : World} {b : Nat} {v0 v1 v2 v3 v4 v5 : Value}
theorem Box6.load (h : Box6 w b v0 v1 v2 v3 v4 v5) : (loadVar 26 ⟨b, 0, none⟩).run Tryz.prog w = .ok (.agg #[v0, v1, v2, v3, v4, v5]) w := by
  obtain ⟨z0, z1, z2, z3, z4, z5⟩ := h.cells
  simp [go_sem, z0, z1, z2, z3, z4, z5]
theorem Box6.set_ (h : Box6 w b v0 v1 v2 v3 v4 v5) (i : Nat) (u : Value) : (w.setCell ⟨b, i, none⟩ u).heap[b]? = some (.cells (#[v0, v1, v2, v3, v4, v5].setIfInBounds i u) 26 (0, 0)) := by
  unfold Box6 at h
  simp [World.setCell, Array.getElem?_modify, h]
theorem Box6.set0 (h : Box6 w b v0 v1 v2 v3 v4 v5) (u : Value) : Box6 (w.setCell ⟨b, 0, none⟩ u) b u v1 v2 v3 v4 v5 := h.set_ 0 u
theorem Box6.set1 (h : Box6 w b v0 v1 v2 v3 v4 v5) (u : Value) : Box6 (w.setCell ⟨b, 1, none⟩ u) b v0 u v2 v3 v4 v5 := h.set_ 1 u
theorem Box6.set2 (h : Box6 w b v0 v1 v2 v3 v4 v5) (u : Value) : Box6 (w.setCell ⟨b, 2, none⟩ u) b v0 v1 u v3 v4 v5 := h.set_ 2 u
theorem Box6.set3 (h : Box6 w b v0 v1 v2 v3 v4 v5) (u : Value) : Box6 (w.setCell ⟨b, 3, none⟩ u) b v0 v1 v2 u v4 v5 := h.set_ 3 u
theorem Box6.set4 (h : Box6 w b v0 v1 v2 v3 v4 v5) (u : Value) : Box6 (w.setCell ⟨b, 4, none⟩ u) b v0 v1 v2 v3 u v5 := h.set_ 4 u
theorem Box6.alloc (h : Box6 w b v0 v1 v2 v3 v4 v5) (o : Obj) : Box6 (w.alloc o) b v0 v1 v2 v3 v4 v5 := (Below.heap_alloc w o b h.lt).trans h
theorem Box6.new' {w : World} {b : Nat} (hb : w.heap.size = b) (v0 v1 v2 v3 v4 v5 : Value) : Box6 (w.alloc (.cells #[v0, v1, v2, v3, v4, v5] 26)) b v0 v1 v2 v3 v4 v5 := hb ▸ heap_alloc_new w _
end
/-- A field's variable. -/
def Box8 (w : World) (b : Nat) (n : ByteArray) (o : Bool) (v0 v1 v2 v3 v4 v5 : Value) : Prop := w.heap[b]? = some (.cells #[.string n, .bool o, v0, v1, v2, v3, v4, v5] 48 (0, 0))
section
variable {w w' : World} {b : Nat} {n : ByteArray} {o : Bool} {v0 v1 v2 v3 v4 v5 : Value}
theorem Box8.lt (h : Box8 w b n o v0 v1 v2 v3 v4 v5) : b < w.heap.size := size_block h
theorem Box8.cells (h : Box8 w b n o v0 v1 v2 v3 v4 v5) : w.cell? ⟨b, 0, none⟩ = some (.string n) ∧ w.cell? ⟨b, 1, none⟩ = some (.bool o) ∧ w.cell? ⟨b, 2, none⟩ = some v0 ∧ w.cell? ⟨b, 3, none⟩ = some v1 ∧ w.cell? ⟨b, 4, none⟩ = some v2 ∧ w.cell? ⟨b, 5, none⟩ = some v3 ∧ w.cell? ⟨b, 6, none⟩ = some v4 ∧ w.cell? ⟨b, 7, none⟩ = some v5 :=
  ⟨cell_of_row w b 0 _ _ _ h, cell_of_row w b 1 _ _ _ h, cell_of_row w b 2 _ _ _ h, cell_of_row w b 3 _ _ _ h, cell_of_row w b 4 _ _ _ h, cell_of_row w b 5 _ _ _ h, cell_of_row w b 6 _ _ _ h, cell_of_row w b 7 _ _ _ h⟩
theorem Box8.frozen (h : Box8 w b n o v0 v1 v2 v3 v4 v5) (i : Nat) : w.frozen? ⟨b, i, none⟩ = false := free_block h i
theorem Box8.same (h : Box8 w b n o v0 v1 v2 v3 v4 v5) (hs : w'.heap[b]? = w.heap[b]?) : Box8 w' b n o v0 v1 v2 v3 v4 v5 := hs.trans h
/-- Its type is turned. -/
def fill8 (w : World) (b : Nat) (v0 v1 v2 v3 v4 v5 : Value) : World := (((((w.setCell ⟨b, 2, none⟩ v0).setCell ⟨b, 3, none⟩ v1).setCell ⟨b, 4, none⟩ v2).setCell ⟨b, 5, none⟩ v3).setCell ⟨b, 6, none⟩ v4).setCell ⟨b, 7, none⟩ v5
end
end Go.Proofs.YteecdmceleanjaaGreatDoor
