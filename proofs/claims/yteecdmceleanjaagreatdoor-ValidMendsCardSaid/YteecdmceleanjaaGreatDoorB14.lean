/-
  valid.look: the kids of dictionaries and lists.
-/
import Derived.Test.YteecdmceleanjaaGreatDoorB13
namespace Go.Proofs.YteecdmceleanjaaGreatDoor
open Go.RowKit

section
variable {go : Bool} {base c g : Nat} {w0 w : World} {l : List Flt} {G0 : List Nat} {pv : Value} {p : List ByteArray}
/-- A call begins: boxes of its own. -/
theorem LookSt.enter {w1 : World} (h : LookSt go base c g w0 w l G0 pv p) (hb : Below w.heap.size w w1) :
    ∃ G, LookSt go base c g w1 w1 l G pv p ∧ (∀ k ∈ G, (k ∈ G0 ∨ w0.heap.size ≤ k) ∧ k < w.heap.size) ∧ (∀ k ∈ blk pv, k < w.heap.size) ∧ ∀ w6 l', LookSt go base c g w1 w6 l' G pv p → LookSt go base c g w0 w6 l' G0 pv p := by
  have h' := h.next hb
  obtain ⟨G, h1, h2, h3⟩ := h.ex
  have hs := h.size; have hs1 := hb.size
  have hbs := h.bs; have hcb := h.cb; have hgb := h.gb; have htc := h.tc
  have hob := h.ob
  have hGl := h1.lt
  refine ⟨G, ⟨⟨G, h1.same (hb.block c (by omega)) fun k hk => hb.block k (h1.lt k hk).2, fun k hk => .inl hk, h3⟩, h'.own, ⟨rfl, rfl, rfl, Nat.le_refl _, fun _ _ _ _ => rfl⟩, fun k hk => (hGl k hk).1, by omega, hcb, hgb, h.gc, htc, h'.fn, h'.tab⟩, fun k hk => ⟨h2 k hk, (hGl k hk).2⟩, fun k hk => (hob k hk).2, fun w6 l' k6 => ?_⟩
  obtain ⟨G', g1, g2, g3⟩ := k6.ex
  have ks := k6.size
  refine ⟨⟨G', g1, fun k hk => ?_, g3⟩, k6.own, ⟨k6.t.os.trans h'.t.os, k6.t.tape.trans h'.t.tape, k6.t.output.trans h'.t.output, by omega, fun k hk hkG hkc => ?_⟩, h.low, h.bs, hcb, hgb, h.gc, htc, k6.fn, k6.tab⟩
  · rcases g2 k hk with h4 | h4
    · exact h2 k h4
    · exact .inr (by omega)
  · refine (k6.t.block k (by omega) (fun hm => ?_) hkc).trans (h'.t.block k hk hkG hkc)
    rcases List.mem_append.1 hm with hm | hm
    · rcases h2 k hm with h4 | h4
      · exact hkG (List.mem_append.2 (.inl h4))
      · omega
    · exact hkG (List.mem_append.2 (.inr hm))
end
/-- What the boxes of a call of look hold. -/
structure LookFr (base c B n : Nat) (w1 : World) (t : T) (d : D) (G : List Nat) (pv v0 v1 v2 v3 v4 v5 u0 u1 u2 u3 u4 : Value) : Prop where
  bt : Box6 w1 n v0 v1 v2 v3 v4 v5
  bd : Box5 w1 (n + 1) u0 u1 u2 u3 u4
  tv : TypeIn w1 B t v0 v1 v2 v3 v4 v5
  dv : DocIn w1 B d u0 u1 u2 u3 u4
  lG : ∀ k ∈ G, k < n
  lp : ∀ k ∈ blk pv, k < n
  sz : n + 2 ≤ w1.heap.size
  Bc : B ≤ c
  bn : base ≤ n
section
variable {go : Bool} {base c g B n : Nat} {w1 w : World} {t : T} {d : D} {l : List Flt} {G : List Nat} {pv v0 v1 v2 v3 v4 v5 u0 u1 u2 u3 u4 : Value} {p : List ByteArray}
theorem LookFr.blocks (h : LookFr base c B n w1 t d G pv v0 v1 v2 v3 v4 v5 u0 u1 u2 u3 u4) (k : LookSt go base c g w1 w l G pv p) {j : Nat} (h1 : n ≤ j) (h2 : j < w1.heap.size) : w.heap[j]? = w1.heap[j]? :=
  k.block h2 (by have := k.cb; have := h.bn; omega) (.inr ⟨fun hm => by have := h.lG j hm; omega, fun hm => by have := h.lp j hm; omega⟩)
theorem LookFr.box6 (h : LookFr base c B n w1 t d G pv v0 v1 v2 v3 v4 v5 u0 u1 u2 u3 u4) (k : LookSt go base c g w1 w l G pv p) : Box6 w n v0 v1 v2 v3 v4 v5 := h.bt.same (h.blocks k (Nat.le_refl _) (by have := h.sz; omega))
theorem LookFr.box5 (h : LookFr base c B n w1 t d G pv v0 v1 v2 v3 v4 v5 u0 u1 u2 u3 u4) (k : LookSt go base c g w1 w l G pv p) : Box5 w (n + 1) u0 u1 u2 u3 u4 := h.bd.same (h.blocks k (by omega) (by have := h.sz; omega))
theorem LookFr.tin (h : LookFr base c B n w1 t d G pv v0 v1 v2 v3 v4 v5 u0 u1 u2 u3 u4) (k : LookSt go base c g w1 w l G pv p) : TypeIn w B t v0 v1 v2 v3 v4 v5 := h.tv.keep (Nat.le_refl _) fun q hq => k.cell h.Bc q hq
theorem LookFr.din (h : LookFr base c B n w1 t d G pv v0 v1 v2 v3 v4 v5 u0 u1 u2 u3 u4) (k : LookSt go base c g w1 w l G pv p) : DocIn w B d u0 u1 u2 u3 u4 := h.dv.keep (Nat.le_refl _) fun q hq => k.cell h.Bc q hq
theorem LookFr.le (h : LookFr base c B n w1 t d G pv v0 v1 v2 v3 v4 v5 u0 u1 u2 u3 u4) (k : LookSt go base c g w1 w l G pv p) : B ≤ w.heap.size := by have := h.Bc; have := k.cb; have := k.bs; have := k.size; omega
theorem LookFr.start {w : World} {B : Nat} (hB : B ≤ c) (hbs : base ≤ w.heap.size) (hcb : c < base) (ht : TypeIn w B t v0 v1 v2 v3 v4 v5) (hd : DocIn w B d u0 u1 u2 u3 u4) (hG : ∀ k ∈ G, k < w.heap.size) (hp : ∀ k ∈ blk pv, k < w.heap.size) :
    LookFr base c B w.heap.size ((w.alloc (.cells #[v0, v1, v2, v3, v4, v5] 26)).alloc (.cells #[u0, u1, u2, u3, u4] 29)) t d G pv v0 v1 v2 v3 v4 v5 u0 u1 u2 u3 u4 := by
  have hb : Below w.heap.size w ((w.alloc (.cells #[v0, v1, v2, v3, v4, v5] 26)).alloc (.cells #[u0, u1, u2, u3, u4] 29)) := ((Below.refl _ _).alloc (Nat.le_refl _) _).alloc (by simp) _
  exact ⟨(Box6.new w _ _ _ _ _ _).alloc _, Box5.new' (by simp) _ _ _ _ _, ht.keep (Nat.le_refl _) fun q hq => hb.cell (p := q) (by omega), hd.keep (Nat.le_refl _) fun q hq => hb.cell (p := q) (by omega), hG, hp, by simp, hB, hbs⟩
end
theorem fitsV_is (t : T) (d : D) : fitsV t d = 0 ∨ fitsV t d = 7 ∨ fitsV t d = 8 := by
  unfold fitsV; split
  · split
    · exact .inl rfl
    · exact .inr (.inr rfl)
  · exact .inr (.inl rfl)
/-- Who has no type for kids has no kids. -/
theorem look_of {t : T} {d : D} (hok : LeastOk t) (hdk : DocOk d) (hk : t.kind ≠ 1) : (∃ x, t.of = [x]) ∨ (t.of = [] ∧ (fitsV t d ≠ 7 → d.kids = [])) := by
  by_cases h2 : t.kind = 2 ∨ t.kind = 3
  · exact .inl (hok.of1 h2)
  · refine .inr ⟨hok.of0 (by omega) (by omega), fun h7 => hdk.leaf ?_⟩
    have hkk := hok.kind
    unfold fitsV kindV at h7
    by_cases e : d.kind = kindV t
    · unfold kindV at e
      rw [if_neg hk, if_neg (by omega), if_neg (by omega)] at e
      split at e
      · omega
      · split at e <;> omega
    · exfalso; unfold kindV at e; rw [if_neg e] at h7; exact h7 rfl
theorem faults_kids {t x : T} {d : D} {p : List ByteArray} (hk : t.kind ≠ 1) (h7 : fitsV t d ≠ 7) (hx : t.of = [x] ∨ (t.of = [] ∧ d.kids = [])) : t.faults d p = (if fitsV t d = 0 then [] else [(p, fitsV t d)]) ++ kidsFl x d p d.kids.length := by
  rw [faults_eq, if_neg h7, if_neg hk]
  congr 1
  rcases hx with h | ⟨h, h'⟩
  · rw [h, kidsFl_all]
  · rw [h, h']; simp [faultsO, kidsFl_zero]
theorem kidsFl_split (x : T) (d : D) (p : List ByteArray) (k : Nat) : ∀ n, k ≤ n → n ≤ d.kids.length → ∃ r, kidsFl x d p n = kidsFl x d p k ++ r := by
  intro n
  induction n with
  | zero => intro h _; obtain rfl : k = 0 := by omega
            exact ⟨[], by simp⟩
  | succ n ih =>
    intro h hn
    rcases Nat.lt_or_ge k (n + 1) with h1 | h1
    · obtain ⟨r, hr⟩ := ih (by omega) (by omega)
      exact ⟨r ++ x.faults d.kids[n] (p ++ [partV d n]), by rw [kidsFl_succ x d p n (by omega), hr, List.append_assoc]⟩
    · obtain rfl : k = n + 1 := by omega
      exact ⟨[], by simp⟩
set_option maxHeartbeats 16000000 in
set_option maxRecDepth 100000 in
theorem look_kids {go : Bool} {base c g B m : Nat} (ih : LookTo go base c g B m) {t : T} {d : D} {tv uv pv : Value} {w : World} {l : List Flt} {G : List Nat} {p : List ByteArray} (hk : t.kind ≠ 1) (hm : t.depth ≤ m + 1) (hall : allT t = true) (hf : t.Fit) (hfd : d.Fit) (hpd : partB d = true) (hpre : go = true ∨ l = []) (hlen : l.length + (t.faults d p).length ≤ 100000) (hpl : p.length + (m + 1) ≤ 10000) (hBc : B ≤ c)
    (ht : TypeV w B t tv) (hd : DocV w B d uv) (hst : LookSt go base c g w w l G pv p) :
    Calls Tryz.prog 68 #[tv, uv, pv, .func (.func 67) #[] #[.pointer (some ⟨g, 0, none⟩)]] w fun e w' => e = .returned (.bool (ends go (t.faults d p))) ∧ LookSt go base c g w w' (gath go l (t.faults d p)) G pv p := by
  obtain ⟨v0, v1, v2, v3, v4, v5, rfl, hti⟩ := ht
  obtain ⟨u0, u1, u2, u3, u4, rfl, hdi⟩ := hd
  have hok := leastOk_of (show soundT t = true by rw [allT_eq, Bool.and_eq_true] at hall; exact hall.1)
  have hpd' := hpd
  rw [partB_eq, Bool.and_eq_true] at hpd'
  have hdk := docOk_of hpd'.1
  have hxo := look_of hok hdk hk
  obtain ⟨x, hx⟩ : ∃ x : T, t.of = [x] ∨ (t.of = [] ∧ (fitsV t d ≠ 7 → d.kids = [])) := by
    rcases hxo with ⟨x, h⟩ | h
    · exact ⟨x, .inl h⟩
    · exact ⟨t, .inr h⟩
  have hcb := hst.cb; have hbs := hst.bs
  have hbw : Below w.heap.size w ((w.alloc (.cells #[v0, v1, v2, v3, v4, v5] 26)).alloc (.cells #[u0, u1, u2, u3, u4] 29)) := ((Below.refl _ _).alloc (Nat.le_refl _) _).alloc (by simp) _
  obtain ⟨G1, hst1, hlt, hplt, hback⟩ := hst.enter hbw
  have HFR := Lib.hid (LookFr.start (t := t) (d := d) hBc hbs hcb hti hdi (fun k hk => (hlt k hk).2) hplt)
  have HST1 := Lib.hid hst1; have HBACK := Lib.hid hback
  obtain ⟨A3, c3, A4, c4, A5, c5, rfl, rfl, rfl, rfl, rfl, e5⟩ := hti.forms
  obtain ⟨no, hno⟩ : ∃ no, t.of.length = no := ⟨_, rfl⟩
  rw [hno] at e5
  subst e5
  have HNO := Lib.hid hno
  obtain ⟨B3, d3, B4, d4, rfl, rfl, rfl, rfl, rfl⟩ := hdi.forms
  have HF := Lib.hid hf; have HFD := Lib.hid hfd; have HALL := Lib.hid hall; have HPARTS := Lib.hid hpd'.2; have HIH := Lib.hid ih; have HPRE := Lib.hid hpre; have HLEN := Lib.hid hlen; have HOK := Lib.hid hok; have HDK := Lib.hid hdk; have HX := Lib.hid hx; have HK := Lib.hid hk; have HM := Lib.hid hm
  clear hno
  have hll : l.length ≤ 100000 := by omega
  have hppl : p.length ≤ 10000 := by omega
  have HPL := Lib.hid hpl
  have g1 : (t.kind == 1) = false := by simp [hk]
  clear hst hst1 hlt hplt hback hti hdi hf hfd hall hpd hpd' ih hpre hlen hok hdk hxo hx hk hm hbw hpl
  go_enter Tryz.func68, Tryz.ntmps68
  go_wp2_with fail
  generalize (w.alloc (.cells #[.int .i64 t.kind, .int .i64 t.lo, .int .i64 t.hi, .slice A3 t.names.length c3, .slice A4 t.fields.length c4, .slice A5 no c5] 26)).alloc (.cells #[.int .i64 d.kind, .int .i64 d.num, .string d.str, .slice B3 d.keys.length d3, .slice B4 d.kids.length d4] 29) = w1 at *
  refine (fits_any HF.out HFD.out (HFR.out.le HST1.out) ⟨_, _, _, _, _, _, rfl, HFR.out.tin HST1.out⟩ ⟨_, _, _, _, _, rfl, HFR.out.din HST1.out⟩).mono ?_
  rintro e w2 ⟨rfl, hb2⟩
  have HST2 := Lib.hid (HST1.out.next hb2)
  clear hb2
  by_cases h7 : fitsV t d = 7
  · have EF : Hid (t.faults d p = [(p, 7)]) := Lib.hid (by rw [faults_eq, h7]; simp)
    rw [h7]
    clear h7
    go_wp2_with fail
    go_at_call 67
    refine (HST2.out.tell HPRE.out hll hppl).mono ?_
    rintro e w3 ⟨rfl, hst3⟩
    have HST3 := Lib.hid hst3
    clear hst3
    rw [ends_one]
    by_cases hgo : go = true
    · rw [hgo]
      go_wp2_with fail
      go_ret
      exact ⟨ret_bool (by rw [EF.out, ends_one, hgo]), HBACK.out _ _ (by rw [EF.out]; exact HST3.out)⟩
    · have hgo' : go = false := by simpa using hgo
      rw [hgo']
      go_wp2_with fail
      go_ret
      exact ⟨ret_bool (by rw [EF.out, ends_one, hgo']), HBACK.out _ _ (by rw [EF.out]; exact HST3.out)⟩
  have h08 : fitsV t d = 0 ∨ fitsV t d = 8 := by have := fitsV_is t d; omega
  have hx' : t.of = [x] ∨ (t.of = [] ∧ d.kids = []) := HX.out.imp id fun h => ⟨h.1, h.2 h7⟩
  have EF := Lib.hid (faults_kids (p := p) HK.out h7 hx')
  have HX' := Lib.hid hx'
  clear h7 hx' HX
  rcases h08 with h0 | h8
  focus
    obtain ⟨fe, hfe⟩ : ∃ fe : List Flt, fe = [] := ⟨_, rfl⟩
    have HEF : Hid (t.faults d p = fe ++ kidsFl x d p d.kids.length) := Lib.hid (by rw [EF.out, if_pos h0, hfe])
    have HEE : Hid (ends go fe = true) := Lib.hid (by rw [hfe, ends_nil])
    obtain ⟨w3, hw3⟩ : ∃ w3, w3 = w2 := ⟨_, rfl⟩
    have HST3 : Hid (LookSt go base c g w1 w3 (gath go l fe) G1 pv p) := Lib.hid (by rw [hfe, gath_nil, hw3]; exact HST2.out)
    rw [← hw3, h0]
    clear hw3 hfe h0 EF HST2
    obtain ⟨x0, x1, x2, x3, x4, x5⟩ := (HFR.out.box6 HST3.out).cells
    obtain ⟨y0, y1, y2, y3, y4⟩ := (HFR.out.box5 HST3.out).cells
    go_wp2_with fail
  rotate_left
  focus
    obtain ⟨fe, hfe⟩ : ∃ fe : List Flt, fe = [(p, 8)] := ⟨_, rfl⟩
    have HEF : Hid (t.faults d p = fe ++ kidsFl x d p d.kids.length) := Lib.hid (by rw [EF.out, h8, hfe]; rfl)
    rw [h8]
    clear h8 EF
    go_wp2_with fail
    go_at_call 67
    refine (HST2.out.tell HPRE.out hll hppl).mono ?_
    rintro e w3 ⟨rfl, hst3⟩
    have HST3 : Hid (LookSt go base c g w1 w3 (gath go l fe) G1 pv p) := Lib.hid (by rw [hfe]; exact hst3)
    clear hst3
    rw [ends_one]
    by_cases hgo : go = true
    case neg =>
      have hgo' : go = false := by simpa using hgo
      have hee : ends go fe = false := by rw [hfe, ends_one]; exact hgo'
      have HG1 : Hid (ends go (t.faults d p) = false) := Lib.hid (by rw [HEF.out]; exact ends_off _ hee)
      have HG2 : Hid (gath go l (t.faults d p) = gath go l fe) := Lib.hid (by rw [HEF.out]; exact gath_off _ _ hee)
      rw [hgo']
      clear hee hfe
      go_wp2_with fail
      go_ret
      exact ⟨ret_bool HG1.out.symm, HBACK.out _ _ (by rw [HG2.out]; exact HST3.out)⟩
    have HEE : Hid (ends go fe = true) := Lib.hid (by rw [hfe, ends_one]; exact hgo)
    rw [hgo]
    clear hfe hgo
    obtain ⟨x0, x1, x2, x3, x4, x5⟩ := (HFR.out.box6 HST3.out).cells
    obtain ⟨y0, y1, y2, y3, y4⟩ := (HFR.out.box5 HST3.out).cells
    go_wp2_with fail
  all_goals (
    clear x0 x1 x2 x3 x4 x5 y0 y1 y2 y3 y4
    go_loopw [39] (fun i wr => ∃ k : Nat, k ≤ d.kids.length ∧ i = .int .i64 k ∧ LookSt go base c g w1 wr (gath go l (fe ++ kidsFl x d p k)) G1 pv p ∧ ends go (fe ++ kidsFl x d p k) = true) (fun i _ => d.kids.length - (intOf i).toNat)
    case atStart => exact ⟨0, Nat.zero_le _, rfl, by rw [kidsFl_zero, List.append_nil]; exact HST3.out, by rw [kidsFl_zero, List.append_nil]; exact HEE.out⟩
    case round =>
      obtain ⟨k, hk0, rfl, hstr, hek⟩ := hrel
      have HSTR := Lib.hid hstr; have HEK := Lib.hid hek
      clear hstr hek
      by_cases hlt : k < d.kids.length
      · have hne : d.kids ≠ [] := fun e => by rw [e] at hlt; simp at hlt
        have hof : t.of = [x] := by
          rcases HX'.out with h | h
          · exact h
          · exact absurd h.2 hne
        clear hne
        have hol : t.of.length = 1 := by rw [hof]; rfl
        have sz1 := HFR.out.sz
        have szr := HSTR.out.size
        have hcb := HSTR.out.cb
        have hbn := HFR.out.bn
        have hBc := HFR.out.Bc
        -- the type's kid
        have htin := HFR.out.tin HSTR.out
        have hdin := HFR.out.din HSTR.out
        obtain ⟨A5', c5', e5, _, hofv⟩ := htin.of_
        injection e5 with e51 e52 e53
        subst e51; subst e53
        have hno : t.of.length = no := HNO.out
        obtain ⟨bo, off, rfl, hboB, hofw⟩ := hofv (by omega)
        clear hofv
        obtain ⟨z0, z1, z2, z3, z4, z5, g0, g1', g2, g3, g4, g5, hzi⟩ := hofw.at_ 0 (by omega)
        have hx0 : t.of[0]'(by omega) = x := by simp only [hof, List.getElem_cons_zero]
        rw [hx0] at hzi
        simp only [Nat.zero_mul, Nat.add_zero] at g0 g1' g2 g3 g4 g5
        have HZI := Lib.hid hzi
        obtain ⟨X3, x3, X4, x4, X5, x5, rfl, rfl, rfl, rfl, rfl, rfl⟩ := hzi.forms
        -- the document's kid
        obtain ⟨_, _, hkv⟩ := hdin.kids_
        obtain ⟨bk, offk, rfl, hbkB, hkw⟩ := hkv (by omega)
        clear hkv
        obtain ⟨q0, q1, q2, q3, q4, r0, r1, r2, r3, r4, hyi⟩ := hkw.at_ k hlt
        obtain ⟨y, hy⟩ : ∃ y, y = d.kids[k] := ⟨_, rfl⟩
        rw [← hy] at hyi
        simp only [Nat.zero_add] at r0 r1 r2 r3 r4
        have HYI := Lib.hid hyi
        obtain ⟨Y3, y3, Y4, y4, rfl, rfl, rfl, rfl, rfl⟩ := hyi.forms
        obtain ⟨t0, t1, t2, t3, t4, t5⟩ := (HFR.out.box6 HSTR.out).cells
        obtain ⟨u0, u1, u2, u3, u4⟩ := (HFR.out.box5 HSTR.out).cells
        have hdep : x.depth ≤ m := by have := T.of_depth (t := t) (i := 0) (by omega); rw [hx0] at this; have := HM.out; omega
        have HAX : Hid (allT x = true) := Lib.hid (by
          have h := HALL.out
          rw [allT_eq, Bool.and_eq_true] at h
          have h2 := h.2
          rw [T.kids, allL_append, Bool.and_eq_true, hof] at h2
          simpa [allL] using h2.2)
        have HFX : Hid x.Fit := Lib.hid (by
          have h := HF.out.parts.2.2.2.2.2
          rw [hof] at h
          exact h.at_ (i := 0) (by simp))
        have HFY : Hid y.Fit := Lib.hid (by rw [hy]; exact HFD.out.kid hlt)
        have HPY : Hid (partB y = true) := Lib.hid (by rw [hy]; exact partsB_at HPARTS.out hlt)
        have HKS : Hid (d.kind ≠ 3 → k < d.keys.length) := Lib.hid (fun h3 => by
          have h1 := HDK.out.kind
          have h2 := HDK.out.leaf
          have h4 := HDK.out.same
          by_cases h5 : d.kind = 1 ∨ d.kind = 2
          · rw [h4 h5]; exact hlt
          · have := h2 (by omega)
            rw [this] at hlt; simp at hlt)
        have hk10 : k ≤ 10000 := by have := HFD.out.kids; omega
        obtain ⟨s, hs⟩ : ∃ s, s = partV d k := ⟨_, rfl⟩
        have HS : Hid (partV d k = s) := Lib.hid hs.symm
        have HSUC : Hid (kidsFl x d p (k + 1) = kidsFl x d p k ++ x.faults y (p ++ [s])) := Lib.hid (by rw [kidsFl_succ x d p k hlt, hs, hy])
        have HMONO : Hid ((kidsFl x d p (k + 1)).length ≤ (kidsFl x d p d.kids.length).length) := Lib.hid (kidsFl_mono x d p (k + 1) _ (by omega) (Nat.le_refl _))
        have HSPL : Hid (∃ r, kidsFl x d p d.kids.length = kidsFl x d p (k + 1) ++ r) := Lib.hid (kidsFl_split x d p (k + 1) _ (by omega) (Nat.le_refl _))
        have hLN : (gath go l (fe ++ kidsFl x d p k)).length + (x.faults y (p ++ [s])).length ≤ 100000 := by
          have h1 := gath_len go l (fe ++ kidsFl x d p k)
          have h2 := HLEN.out
          rw [HEF.out] at h2
          have h3 := HMONO.out
          rw [HSUC.out] at h3
          simp only [List.length_append] at h1 h2 h3
          omega
        have HLN := Lib.hid hLN
        have HDIN := Lib.hid hdin
        clear hs hy hzi hyi htin hdin hofw hkw hLN hx0 hof e52
        have hik0 : (0 : Int) ≤ (k : Int) := by omega
        have hik1 : (k : Int) < (d.kids.length : Int) := by omega
        have ho1 : (0 : Int) < (no : Int) := by omega
        have ho2 : 0 < no := by omega
        have ho3 : decide ((0 : Int) < (no : Int)) = true := by simpa using ho2
        have ho4 : ¬ (no = 0) := by omega
        have hbkl : bk < wr.heap.size := by omega
        have hbol : bo < wr.heap.size := by omega
        clear hol hno
        go_upto_region 11 with fail
        obtain ⟨wz, hwz⟩ : ∃ wz, wz = wr.alloc (.cells #[.int .i64 y.kind, .int .i64 y.num, .string y.str, .slice Y3 y.keys.length y3, .slice Y4 y.kids.length y4] 29) := ⟨_, rfl⟩
        have HBZ : Hid (Below wr.heap.size wr wz) := by rw [hwz]; exact (Below.refl _ _).alloc (Nat.le_refl _) _
        have HKB : Hid (Box5 wz wr.heap.size (.int .i64 y.kind) (.int .i64 y.num) (.string y.str) (.slice Y3 y.keys.length y3) (.slice Y4 y.kids.length y4)) := by rw [hwz]; exact Box5.new wr _ _ _ _ _
        have hzz : wr.heap.size + 1 ≤ wz.heap.size := by rw [hwz]; simp
        rw [← hwz]
        clear hwz
        have mv : ∀ b o, b < wr.heap.size → wr.cell? ⟨b, o, none⟩ = wz.cell? ⟨b, o, none⟩ := fun b o h => (HBZ.out.cell (p := ⟨b, o, none⟩) h).symm
        rw [mv _ _ hbol] at g0 g1' g2 g3 g4 g5
        rw [mv _ _ (by omega)] at t5 u0 u1 u2 u3 u4
        clear t0 t1 t2 t3 t4 mv r0 r1 r2 r3 r4
        obtain ⟨k0, k1, k2, k3, k4⟩ := HKB.out.cells
        obtain ⟨Gr, hstz, hGr, hpr, hbackz⟩ := HSTR.out.enter HBZ.out
        have HSTZ := Lib.hid hstz; have HBACKZ := Lib.hid hbackz; have HPR := Lib.hid hpr
        have HLP := Lib.hid HFR.out.lp
        have HZZ := Lib.hid (HZI.out.keep (Nat.le_refl B) fun q hq => HBZ.out.cell (p := q) (by omega))
        have HYZ := Lib.hid (HYI.out.keep (Nat.le_refl B) fun q hq => HBZ.out.cell (p := q) (by omega))
        have HDZ := Lib.hid (HDIN.out.keep (Nat.le_refl B) fun q hq => HBZ.out.cell (p := q) (by omega))
        have hlG := HFR.out.lG
        have hlow := HSTZ.out.low
        have hob := HSTZ.out.ob
        have hn0 : w.heap.size < wz.heap.size ∧ w.heap.size ≠ c ∧ w.heap.size ∉ Gr ∧ w.heap.size ∉ blk pv := ⟨by omega, by omega, fun hm => (hGr _ hm).1.elim (fun h => by have := hlG _ h; omega) (fun h => by omega), fun hm => by have := HLP.out _ hm; omega⟩
        have hn3 : w.heap.size + 1 < wz.heap.size ∧ w.heap.size + 1 ≠ c ∧ w.heap.size + 1 ∉ Gr ∧ w.heap.size + 1 ∉ blk pv := ⟨by omega, by omega, fun hm => (hGr _ hm).1.elim (fun h => by have := hlG _ h; omega) (fun h => by omega), fun hm => by have := HLP.out _ hm; omega⟩
        have hn1 : bo < wz.heap.size ∧ bo ≠ c ∧ bo ∉ Gr ∧ bo ∉ blk pv := ⟨by omega, by omega, fun hm => by have := hlow _ hm; omega, fun hm => by have := (hob _ hm).1; omega⟩
        have hn2 : wr.heap.size < wz.heap.size ∧ wr.heap.size ≠ c ∧ wr.heap.size ∉ Gr ∧ wr.heap.size ∉ blk pv := ⟨by omega, by omega, fun hm => by have := (hGr _ hm).2; omega, fun hm => by have := HPR.out _ hm; omega⟩
        have hlB : ∀ b, b < B → b < wz.heap.size ∧ b ≠ c ∧ b ∉ Gr ∧ b ∉ blk pv := fun b hb => ⟨by omega, by omega, fun hm => by have := hlow _ hm; omega, fun hm => by have := (hob _ hm).1; omega⟩
        have HN0 := Lib.hid hn0; have HN1 := Lib.hid hn1; have HN2 := Lib.hid hn2; have HN3 := Lib.hid hn3; have HLB := Lib.hid hlB
        have hBz : B ≤ wz.heap.size := by omega
        have htcz : 1 < wz.heap.size := by have := HSTZ.out.tc; omega
        have hbz : base ≤ wz.heap.size := HSTZ.out.bs
        have hk4 : ∀ b o, wz.drew.cell? ⟨b, o, none⟩ = wz.cell? ⟨b, o, none⟩ := fun _ _ => rfl
        have HK4 := Lib.hid hk4
        obtain ⟨eb, heb⟩ : ∃ eb, eb = ends go (x.faults y (p ++ [s])) := ⟨_, rfl⟩
        have HEB : Hid (ends go (x.faults y (p ++ [s])) = eb) := Lib.hid heb.symm
        have hpm : p.length + m ≤ 9999 := by have := HPL.out; omega
        clear hn0 hn1 hn2 hn3 hlB hk4 heb hstz hGr hpr hbackz hlG hlow hob hzz
        go_region_held3 (fun w' => w'.cell? ⟨w.heap.size, 5, none⟩ = some (.slice (some ⟨bo, off, none⟩) no c5) ∧ w'.cell? ⟨bo, off, none⟩ = some (.int .i64 x.kind) ∧ w'.cell? ⟨bo, off + 1, none⟩ = some (.int .i64 x.lo) ∧ w'.cell? ⟨bo, off + 2, none⟩ = some (.int .i64 x.hi) ∧ w'.cell? ⟨bo, off + 3, none⟩ = some (.slice X3 x.names.length x3) ∧ w'.cell? ⟨bo, off + 4, none⟩ = some (.slice X4 x.fields.length x4) ∧ w'.cell? ⟨bo, off + 5, none⟩ = some (.slice X5 x.of.length x5) ∧ w'.cell? ⟨wr.heap.size, 0, none⟩ = some (.int .i64 y.kind) ∧ w'.cell? ⟨wr.heap.size, 1, none⟩ = some (.int .i64 y.num) ∧ w'.cell? ⟨wr.heap.size, 2, none⟩ = some (.string y.str) ∧ w'.cell? ⟨wr.heap.size, 3, none⟩ = some (.slice Y3 y.keys.length y3) ∧ w'.cell? ⟨wr.heap.size, 4, none⟩ = some (.slice Y4 y.kids.length y4) ∧ w'.cell? ⟨w.heap.size + 1, 0, none⟩ = some (.int .i64 d.kind) ∧ w'.cell? ⟨w.heap.size + 1, 1, none⟩ = some (.int .i64 d.num) ∧ w'.cell? ⟨w.heap.size + 1, 2, none⟩ = some (.string d.str) ∧ w'.cell? ⟨w.heap.size + 1, 3, none⟩ = some (.slice B3 d.keys.length d3) ∧ w'.cell? ⟨w.heap.size + 1, 4, none⟩ = some (.slice (some ⟨bk, offk, none⟩) d.kids.length d4))
          (first | with_reducible exact ⟨(HK4.out _ _).trans t5, (HK4.out _ _).trans g0, (HK4.out _ _).trans g1', (HK4.out _ _).trans g2, (HK4.out _ _).trans g3, (HK4.out _ _).trans g4, (HK4.out _ _).trans g5, (HK4.out _ _).trans k0, (HK4.out _ _).trans k1, (HK4.out _ _).trans k2, (HK4.out _ _).trans k3, (HK4.out _ _).trans k4, (HK4.out _ _).trans u0, (HK4.out _ _).trans u1, (HK4.out _ _).trans u2, (HK4.out _ _).trans u3, (HK4.out _ _).trans u4⟩ | with_reducible exact ⟨(HK5.out _ _ HN0.out).trans t5, (HK5.out _ _ HN1.out).trans g0, (HK5.out _ _ HN1.out).trans g1', (HK5.out _ _ HN1.out).trans g2, (HK5.out _ _ HN1.out).trans g3, (HK5.out _ _ HN1.out).trans g4, (HK5.out _ _ HN1.out).trans g5, (HK5.out _ _ HN2.out).trans k0, (HK5.out _ _ HN2.out).trans k1, (HK5.out _ _ HN2.out).trans k2, (HK5.out _ _ HN2.out).trans k3, (HK5.out _ _ HN2.out).trans k4, (HK5.out _ _ HN3.out).trans u0, (HK5.out _ _ HN3.out).trans u1, (HK5.out _ _ HN3.out).trans u2, (HK5.out _ _ HN3.out).trans u3, (HK5.out _ _ HN3.out).trans u4⟩ | with_reducible exact ⟨(HK6.out _ _ _ HN0.out).trans t5, (HK6.out _ _ _ HN1.out).trans g0, (HK6.out _ _ _ HN1.out).trans g1', (HK6.out _ _ _ HN1.out).trans g2, (HK6.out _ _ _ HN1.out).trans g3, (HK6.out _ _ _ HN1.out).trans g4, (HK6.out _ _ _ HN1.out).trans g5, (HK6.out _ _ _ HN2.out).trans k0, (HK6.out _ _ _ HN2.out).trans k1, (HK6.out _ _ _ HN2.out).trans k2, (HK6.out _ _ _ HN2.out).trans k3, (HK6.out _ _ _ HN2.out).trans k4, (HK6.out _ _ _ HN3.out).trans u0, (HK6.out _ _ _ HN3.out).trans u1, (HK6.out _ _ _ HN3.out).trans u2, (HK6.out _ _ _ HN3.out).trans u3, (HK6.out _ _ _ HN3.out).trans u4⟩ | with_reducible exact ⟨(HK7.out _ _ HN0.out).trans t5, (HK7.out _ _ HN1.out).trans g0, (HK7.out _ _ HN1.out).trans g1', (HK7.out _ _ HN1.out).trans g2, (HK7.out _ _ HN1.out).trans g3, (HK7.out _ _ HN1.out).trans g4, (HK7.out _ _ HN1.out).trans g5, (HK7.out _ _ HN2.out).trans k0, (HK7.out _ _ HN2.out).trans k1, (HK7.out _ _ HN2.out).trans k2, (HK7.out _ _ HN2.out).trans k3, (HK7.out _ _ HN2.out).trans k4, (HK7.out _ _ HN3.out).trans u0, (HK7.out _ _ HN3.out).trans u1, (HK7.out _ _ HN3.out).trans u2, (HK7.out _ _ HN3.out).trans u3, (HK7.out _ _ HN3.out).trans u4⟩ | with_reducible exact ⟨(HK8.out _ _ HN0.out).trans t5, (HK8.out _ _ HN1.out).trans g0, (HK8.out _ _ HN1.out).trans g1', (HK8.out _ _ HN1.out).trans g2, (HK8.out _ _ HN1.out).trans g3, (HK8.out _ _ HN1.out).trans g4, (HK8.out _ _ HN1.out).trans g5, (HK8.out _ _ HN2.out).trans k0, (HK8.out _ _ HN2.out).trans k1, (HK8.out _ _ HN2.out).trans k2, (HK8.out _ _ HN2.out).trans k3, (HK8.out _ _ HN2.out).trans k4, (HK8.out _ _ HN3.out).trans u0, (HK8.out _ _ HN3.out).trans u1, (HK8.out _ _ HN3.out).trans u2, (HK8.out _ _ HN3.out).trans u3, (HK8.out _ _ HN3.out).trans u4⟩)
          ((first
            | (go_at_call 106
               refine (part_any_v (w := wz.drew) (B := B) (d := d) hBz ⟨_, _, _, _, _, rfl, DocIn.keep (w := wz) (w' := wz.drew) (Nat.le_refl _) (fun _ _ => rfl) HDZ.out⟩ hk10 HKS.out (tab_same (w := wz) (w' := wz.drew) HSTZ.out.tab rfl) htcz).mono ?_
               rintro e w5 ⟨rfl, hb5⟩
               rw [HS.out]
               have hb5' : Below wz.heap.size wz w5 := (Below.refl _ _).drew.trans hb5
               have HB5 := Lib.hid hb5'
               have HO5 := Lib.hid (ownsRow_same HSTZ.out.own fun j hj => hb5'.block j (HSTZ.out.ob j hj).2)
               have hs5 : wz.heap.size ≤ w5.heap.size := hb5'.size
               have HK5 : Hid (∀ b o, b < wz.heap.size ∧ b ≠ c ∧ b ∉ Gr ∧ b ∉ blk pv → w5.cell? ⟨b, o, none⟩ = wz.cell? ⟨b, o, none⟩) := Lib.hid (fun b o h => hb5'.cell (p := ⟨b, o, none⟩) h.1)
               have HK6 : Hid (∀ (ob : Obj) b o, b < wz.heap.size ∧ b ≠ c ∧ b ∉ Gr ∧ b ∉ blk pv → (w5.alloc ob).cell? ⟨b, o, none⟩ = wz.cell? ⟨b, o, none⟩) := Lib.hid (fun ob b o h => (World.cell?_alloc_lt w5 ob ⟨b, o, none⟩ (by show b < _; omega)).trans (hb5'.cell (p := ⟨b, o, none⟩) h.1))
               clear hb5 hb5')
            | (refine step_path (by rfl) _ _ (by rfl) base p.length 1 pv (p.map Value.string) s ⟨w5.heap.size, 0, none⟩ (by rfl) (by rfl) (HO5.out.alloc _) (cell_block (heap_alloc_new w5 _) 0) (by omega) (by simp; omega) ?_
               intro v' w7 ho7 hp7 hg7 hat7
               have hk7' : ∀ b, b < wz.heap.size ∧ b ≠ c ∧ b ∉ Gr ∧ b ∉ blk pv → w7.heap[b]? = wz.heap[b]? := fun b hb => (hg7.block b (by simp; omega) (fun e => hb.2.2.2 (blk_mem.2 e.symm))).trans ((Below.heap_alloc _ _ b (by omega)).trans (HB5.out.block b hb.1))
               have HK7 : Hid (∀ b o, b < wz.heap.size ∧ b ≠ c ∧ b ∉ Gr ∧ b ∉ blk pv → w7.cell? ⟨b, o, none⟩ = wz.cell? ⟨b, o, none⟩) := Lib.hid (fun b o h => World.cell?_of_block (a := ⟨b, o, none⟩) (hk7' b h))
               have HK7' := Lib.hid hk7'
               obtain ⟨G7, hst7, hG7, hv7, hback7⟩ := ((HSTZ.out.next HB5.out).next ((Below.refl _ _).alloc (Nat.le_refl _) _)).kid ho7 hp7 hg7 hat7
               have HST7 := Lib.hid hst7; have HBACK7 := Lib.hid hback7
               clear hk7' ho7 hp7 hg7 hat7 hst7 hG7 hv7 hback7)
            | (go_at_call 68
               refine (HIH.out x y _ _ v' w7 _ G7 (p ++ [s]) hdep HAX.out HFX.out HFY.out HPY.out (gath_pre HEK.out HPRE.out) HLN.out (by simp; omega) hBc ⟨_, _, _, _, _, _, rfl, HZZ.out.keep (Nat.le_refl B) fun q hq => World.cell?_of_block (a := q) (HK7'.out q.block (HLB.out _ hq))⟩ ⟨_, _, _, _, _, rfl, HYZ.out.keep (Nat.le_refl B) fun q hq => World.cell?_of_block (a := q) (HK7'.out q.block (HLB.out _ hq))⟩ HST7.out).mono ?_
               rintro e w8 ⟨rfl, hst8⟩
               rw [HEB.out]
               have hst8' := HBACK7.out w8 _ hst8
               have HST8 := Lib.hid hst8'
               have HK8 : Hid (∀ b o, b < wz.heap.size ∧ b ≠ c ∧ b ∉ Gr ∧ b ∉ blk pv → w8.cell? ⟨b, o, none⟩ = wz.cell? ⟨b, o, none⟩) := Lib.hid (fun b o h => World.cell?_of_block (a := ⟨b, o, none⟩) (hst8'.block h.1 h.2.1 (.inr h.2.2)))
               clear hst8 hst8')))
        clear t5 g0 g1' g2 g3 g4 g5 k0 k1 k2 k3 k4 u0 u1 u2 u3 u4
        by_cases hE : eb = true
        · have HSTN : Hid (LookSt go base c g w1 w8 (gath go l (fe ++ kidsFl x d p (k + 1))) G1 pv p) := Lib.hid (by
            have h := HBACKZ.out w8 _ HST8.out
            rw [gath_on _ _ HEK.out] at h
            rw [HSUC.out, ← List.append_assoc]; exact h)
          have HEN : Hid (ends go (fe ++ kidsFl x d p (k + 1)) = true) := Lib.hid (by rw [HSUC.out, ← List.append_assoc, ends_on _ HEK.out, HEB.out]; exact hE)
          rw [hE]
          clear hE
          go_wp2_with fail
          go_roundw
          case rel => exact ⟨k + 1, by omega, by go_num, HSTN.out, HEN.out⟩
          case measure => simp [intOf]; omega
        · have hE' : eb = false := by simpa using hE
          have hoff : ends go (fe ++ kidsFl x d p (k + 1)) = false := by rw [HSUC.out, ← List.append_assoc, ends_on _ HEK.out, HEB.out]; exact hE'
          obtain ⟨r, hr⟩ := HSPL.out
          have htot : t.faults d p = (fe ++ kidsFl x d p (k + 1)) ++ r := by rw [HEF.out, hr, List.append_assoc]
          have HG1 : Hid (ends go (t.faults d p) = false) := Lib.hid (by rw [htot]; exact ends_off _ hoff)
          have HSTN : Hid (LookSt go base c g w1 w8 (gath go l (t.faults d p)) G1 pv p) := Lib.hid (by
            have h := HBACKZ.out w8 _ HST8.out
            rw [gath_on _ _ HEK.out] at h
            rw [htot, gath_off _ _ hoff, HSUC.out, ← List.append_assoc]; exact h)
          rw [hE']
          clear hE hE' hoff hr htot
          go_wp2_with fail
          go_ret
          exact ⟨ret_bool HG1.out.symm, HBACK.out _ _ HSTN.out⟩
      · have hkk : k = d.kids.length := by omega
        subst hkk
        have HG1 : Hid (ends go (t.faults d p) = true) := Lib.hid (by rw [HEF.out]; exact HEK.out)
        have HSTN : Hid (LookSt go base c g w1 wr (gath go l (t.faults d p)) G1 pv p) := Lib.hid (by rw [HEF.out]; exact HSTR.out)
        go_wp2_with fail
        go_ret
        exact ⟨ret_bool HG1.out.symm, HBACK.out _ _ HSTN.out⟩)
end Go.Proofs.YteecdmceleanjaaGreatDoor
