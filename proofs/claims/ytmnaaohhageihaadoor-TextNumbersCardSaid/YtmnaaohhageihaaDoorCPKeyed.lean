/-
  The reader: records and dictionaries.
-/
import Derived.Test.YtmnaaohhageihaaDoorCParseQ
import Derived.Test.YtmnaaohhageihaaDoorCPOut
import Derived.Test.YtmnaaohhageihaaDoorCPEnd
namespace Go.Proofs.YtmnaaohhageihaaDoor
open Go.RowKit

theorem StTo.imp {σ : Type} {St St' : σ → Nat → World → Prop} {K : World → Prop} {r : Nat} {s : ByteArray} {t : Out σ} {e : Ending} {w' : World} (h : StTo St K r s t e w') (f : ∀ st l p, t = .ok st l p → St st p w' → St' st p w') : StTo St' K r s t e w' := by
  cases t with
  | ok st l p => exact ⟨h.1, f st l p rfl h.2.1, h.2.2⟩
  | bad l er => exact h
theorem keyI_parts {doc : List UInt8 → Nat → Out D} {key : List UInt8 → Tk (List UInt8)} {sign : UInt8} {ks : List ByteArray} {ds : List D} {l l' : List UInt8} {p p' : Nat} {st' : List ByteArray × List D} (h : keyI doc key sign (ks, ds) l p = .ok st' l' p') :
    ∃ K d, hasB ks K = false ∧ st' = (insK ks (placeOf ks K) K, insK ds (placeOf ks K) d) := by
  rcases hx : key (skipL l) with ⟨k, l1⟩ | ⟨a, b⟩
  · cases hh : hasB (ks, ds).1 ⟨k.toArray⟩
    · by_cases hs : pk (skipL l1) = sign
      · rcases hy : doc (skipL l1).tail p with ⟨d, l2, p2⟩ | ⟨a, b⟩
        · rw [keyI_ok hx hh hs hy] at h
          injection h with ha _ _
          exact ⟨⟨k.toArray⟩, d, hh, ha.symm⟩
        · rw [keyI_doc hx hh hs hy] at h; cases h
      · rw [keyI_sign hx hh hs] at h; cases h
    · rw [keyI_has hx hh] at h; cases h
  · rw [keyI_key hx] at h; cases h
theorem keyedP_ok {doc : List UInt8 → Nat → Out D} {key : List UInt8 → Tk (List UInt8)} {kind : Int} {e sign : UInt8} {l l' : List UInt8} {p p' : Nat} {st : List ByteArray × List D} (h : rowP (keyI doc key sign) e ([], []) l p = .ok st l' p') : keyedP doc key kind e sign l p = .ok (.mk kind 0 ⟨#[]⟩ st.1 st.2) l' p' := by simp only [keyedP, h]
theorem keyedP_bad {doc : List UInt8 → Nat → Out D} {key : List UInt8 → Tk (List UInt8)} {kind : Int} {e sign : UInt8} {l a : List UInt8} {p b : Nat} (h : rowP (keyI doc key sign) e ([], []) l p = .bad a b) : keyedP doc key kind e sign l p = .bad a b := by simp only [keyedP, h]
set_option maxHeartbeats 8000000 in
set_option maxRecDepth 100000 in
theorem keyed_l {r n kf : Nat} {s : ByteArray} {key : List UInt8 → Tk (List UInt8)} {sign e : UInt8} (hsg : sign ≠ 0) (he : e ≠ 0) (kd : Int) (HD : DReads r s n) (hn : n ≤ 11) (hs : s.size ≤ 1000000)
    (ek : ∀ args w, (callFunc kf args).run Tryd.prog w = .ok (.enter kf args) w) (e1 : ∀ args w, (callFunc 57 args).run Tryd.prog w = .ok (.enter 57 args) w)
    (HKY : ∀ l p w, RdL w r s l p → Calls Tryd.prog kf #[.pointer (some ⟨r, 0, none⟩)] w fun e w' => TkTo w r s p (key l) (fun v => .string ⟨v.toArray⟩) e w') (hkl : ∀ l v l', key l = .ok v l' → l'.length ≤ l.length)
    {w : World} {l : List UInt8} {p : Nat} (h : RdL w r s l p) (hne : l ≠ []) (hp2 : p ≤ 512) :
    Calls Tryd.prog 41 #[.pointer (some ⟨r, 0, none⟩), .int .i64 kd, .int .u8 e.toNat, .int .u8 sign.toNat, .int .i64 (12 - (n : Int)), .func (.func kf) #[.pointer (some ⟨r, 0, none⟩)] #[]] w fun en w' => DocTo w r s (keyedP (docP n) key kd e sign l p) en w' := by
  have hmf : ∀ (fn : Fn) (first cap : Array Value) (w : World), (Instr.makeFunc fn first cap).run Tryd.prog w = .ok (.func fn first cap) w := fun _ _ _ _ => rfl
  have HR := Lib.hid h; have HNE := Lib.hid hne; have HDD := Lib.hid HD; have HKK := Lib.hid HKY; have HSG := Lib.hid hsg; have HE := Lib.hid he; have HKL := Lib.hid hkl; have HEK := Lib.hid ek
  have hrb := h.block
  clear h hne HD HKY hsg he hkl ek
  obtain ⟨dp, hdp⟩ : ∃ dp : Int, dp = 12 - (n : Int) := ⟨_, rfl⟩
  have HDP := Lib.hid hdp
  rw [← hdp]
  clear hdp
  go_enter Tryd.func41, Tryd.ntmps41
  go_wp2_with fail
  obtain ⟨b, hbe⟩ : ∃ b, b = w.heap.size := ⟨_, rfl⟩
  obtain ⟨w3, hw3⟩ : ∃ w3, w3 = ((((((w.alloc (.cells #[.pointer (some ⟨r, 0, none⟩)] 47)).alloc (.cells #[.int .u8 sign.toNat] 5)).alloc (.cells #[.int .i64 dp] 3)).alloc (.cells #[.func (.func kf) #[.pointer (some ⟨r, 0, none⟩)] #[]] 44)).alloc (.cells #[.int .i64 0, .int .i64 0, .string ⟨#[]⟩, .slice none 0 0, .slice none 0 0] 31)).alloc (.cells #[.int .i64 kd, .int .i64 0, .string ⟨#[]⟩, .slice none 0 0, .slice none 0 0] 31)) := ⟨_, rfl⟩
  have hz3 : w3.heap.size = b + 6 := by rw [hw3, hbe]; simp
  have hbw : Below w.heap.size w w3 := by
    rw [hw3]
    exact ((((((Below.refl _ _).alloc (Nat.le_refl _) _).alloc (by simp) _).alloc (by simp; omega) _).alloc (by simp; omega) _).alloc (by simp; omega) _).alloc (by simp; omega) _
  have k0 : w3.heap[b]? = some (.cells #[.pointer (some ⟨r, 0, none⟩)] 47 (0, 0)) := by
    rw [hw3]
    rw [Below.heap_alloc _ _ _ (by simp; omega), Below.heap_alloc _ _ _ (by simp; omega), Below.heap_alloc _ _ _ (by simp; omega), Below.heap_alloc _ _ _ (by simp; omega), Below.heap_alloc _ _ _ (by simp; omega)]
    exact heap_alloc_new' hbe.symm _
  have k1 : w3.heap[b + 1]? = some (.cells #[.int .u8 sign.toNat] 5 (0, 0)) := by
    rw [hw3]
    rw [Below.heap_alloc _ _ _ (by simp; omega), Below.heap_alloc _ _ _ (by simp; omega), Below.heap_alloc _ _ _ (by simp; omega), Below.heap_alloc _ _ _ (by simp; omega)]
    exact heap_alloc_new' (by simp; omega) _
  have k2 : w3.heap[b + 2]? = some (.cells #[.int .i64 dp] 3 (0, 0)) := by
    rw [hw3]
    rw [Below.heap_alloc _ _ _ (by simp; omega), Below.heap_alloc _ _ _ (by simp; omega), Below.heap_alloc _ _ _ (by simp; omega)]
    exact heap_alloc_new' (by simp; omega) _
  have k3 : w3.heap[b + 3]? = some (.cells #[.func (.func kf) #[.pointer (some ⟨r, 0, none⟩)] #[]] 44 (0, 0)) := by
    rw [hw3]
    rw [Below.heap_alloc _ _ _ (by simp; omega), Below.heap_alloc _ _ _ (by simp; omega)]
    exact heap_alloc_new' (by simp; omega) _
  have k4 : Box5 w3 (b + 4) (.int .i64 0) (.int .i64 0) (.string ⟨#[]⟩) (.slice none 0 0) (.slice none 0 0) := by
    unfold Box5
    rw [hw3]
    rw [Below.heap_alloc _ _ _ (by simp; omega)]
    exact heap_alloc_new' (by simp; omega) _
  have k5 : Box5 w3 (b + 5) (.int .i64 kd) (.int .i64 0) (.string ⟨#[]⟩) (.slice none 0 0) (.slice none 0 0) := by
    unfold Box5
    rw [hw3]
    exact heap_alloc_new' (by simp; omega) _
  have hR3 : RdL w3 r s l p := HR.out.past hbw
  rw [← hw3]
  have hp0 : PDoc w3 w3 (b + 5) r kd 0 ⟨#[]⟩ [] [] (.slice none 0 0) (.slice none 0 0) [] [] :=
    ⟨k5, World.ownsRow_nil _ _ _ _, World.ownsRow_nil _ _ _ _, by simp [OwnKids], by simp [blk, Value.ownBlock], Turned.of_below (Below.refl _ _) _ _⟩
  have hri0 : Rising [] := fun i hi => by simp at hi
  have hcell : ∀ X, Turned w3 X [r] (b + 5) → X.cell? ⟨b, 0, none⟩ = some (.pointer (some ⟨r, 0, none⟩)) ∧ X.cell? ⟨b + 1, 0, none⟩ = some (.int .u8 sign.toNat) ∧ X.cell? ⟨b + 2, 0, none⟩ = some (.int .i64 (12 - (n : Int))) ∧ X.cell? ⟨b + 3, 0, none⟩ = some (.func (.func kf) #[.pointer (some ⟨r, 0, none⟩)] #[]) := fun X hX => by
    have hh : ∀ k, b ≤ k → k < b + 5 → X.heap[k]? = w3.heap[k]? := fun k h1 h2 => hX.block k (by omega) (by simp; omega) (by omega)
    refine ⟨rdr_cell ((hh b (by omega) (by omega)).trans k0), rdr_cell ((hh (b + 1) (by omega) (by omega)).trans k1), ?_, rdr_cell ((hh (b + 3) (by omega) (by omega)).trans k3)⟩
    rw [← HDP.out]; exact rdr_cell ((hh (b + 2) (by omega) (by omega)).trans k2)
  have hrow := row_any (σ := List ByteArray × List D)
    (St := fun st q W => (∃ v3 v4 cs F, PDoc w3 W (b + 5) r kd 0 ⟨#[]⟩ st.1 st.2 v3 v4 cs F) ∧ st.1.length = st.2.length ∧ Rising st.1 ∧ st.2.length ≤ q ∧ q ≤ 512)
    (K := fun W => Turned w3 W [r] (b + 5)) (item := keyI (docP n) key sign) (caps := #[.pointer (some ⟨b, 0, none⟩), .pointer (some ⟨b + 3, 0, none⟩), .pointer (some ⟨b + 5, 0, none⟩), .pointer (some ⟨b + 1, 0, none⟩), .pointer (some ⟨b + 2, 0, none⟩)]) e HE.out e1
    (fun st l2 p2 W hst hr2 => by
      obtain ⟨ks, ds⟩ := st
      obtain ⟨⟨v3, v4, cs, F, hp⟩, hl, hri, hq, hq2⟩ := hst
      simp only at hp hl hri hq
      obtain ⟨q1, q2, q3, q4⟩ := hcell W hp.t
      refine Calls.mono (keyed1_any (db := b + 5) (rb := b) (fb := b + 3) (sb := b + 1) (pb := b + 2) HSG.out HDD.out hn hs HEK.out HKK.out hp hr2 hl hri hq hq2 (by omega) (by omega) (by omega) q1 q4 q2 q3 (by omega) (by omega) (by omega) (by omega) (by omega) (by omega) (by omega) (by omega)) ?_
      intro en w' hto
      refine hto.imp fun st' l' p' ht hst' => ?_
      obtain ⟨K, d, hk, rfl⟩ := keyI_parts ht
      obtain ⟨g1, g2, _⟩ := keyI_fine (docP_fine n) HKL.out sign _ _ _ _ _ _ hq2 ht
      have hpl := placeOf_le ks K
      exact ⟨hst', by simp only; rw [insK_len _ _ _ hpl, insK_len _ _ _ (by omega), hl], rising_ins hri hk, by simp only; rw [insK_len _ _ _ (by omega)]; omega, g2⟩)
    (fun st l2 p2 W st' l' p' hst ht => (keyI_fine (docP_fine n) HKL.out sign _ _ _ _ _ _ hst.2.2.2.2 ht).2.2)
    (fun st p2 W W' hst hT => by
      obtain ⟨⟨v3, v4, cs, F, hp⟩, h2⟩ := hst
      exact ⟨⟨v3, v4, cs, F, hp.past hT (by omega) (by omega)⟩, h2⟩)
    (fun st p2 W hst => by
      obtain ⟨⟨v3, v4, cs, F, hp⟩, _⟩ := hst
      exact hp.t)
    ([], []) hs HNE.out ⟨⟨_, _, _, _, hp0⟩, rfl, hri0, Nat.zero_le _, hp2⟩ hR3
  rw [← hbe]
  simp only [Nat.add_assoc, Nat.reduceAdd]
  have HBW := Lib.hid hbw
  have HK4 := Lib.hid k4
  have hbr : r < b := by omega
  have hbz := hbe.symm
  have hbl1 : w.heap.size ≤ b := by omega
  have hzl : b + 6 ≤ w3.heap.size := by omega
  refine hrow.mono ?_
  clear hrow k0 k1 k2 k3 k4 k5 hR3 hp0 hcell hw3 hbw hri0 hbz hz3 hbe e1
  intro en w4 hto
  rcases hrp : rowP (keyI (docP n) key sign) e ([], []) l p with ⟨st, l2, p2⟩ | ⟨a, c⟩
  rotate_left
  · rw [hrp] at hto
    obtain ⟨hf, hk⟩ := hto
    unfold Failed at hf
    subst hf
    exact ⟨rfl, DocTo.failed (l := a) (keyedP_bad hrp) rfl (turned_out (res := b + 4) hk (by omega) (by omega) HBW.out (fun _ _ => rfl) rfl ⟨rfl, rfl, rfl⟩)⟩
  rw [hrp] at hto
  obtain ⟨rfl, ⟨⟨v3, v4, cs, F, hp⟩, -⟩, hr4⟩ := hto
  obtain ⟨ks, ds⟩ := st
  simp only at hp
  have HP := Lib.hid hp; have HR4 := Lib.hid hr4; have HRP := Lib.hid hrp
  obtain ⟨A3, c3, rfl⟩ := ownsRow_slice hp.o3
  obtain ⟨A4, c4, rfl⟩ := ownsRow_slice hp.o4
  obtain ⟨d0, d1, d2, d3, d4⟩ := hp.bx.cells
  have hk4 := HK4.out.same (w' := w4) (hp.t.block (b + 4) (by omega) (by simp; omega) (by omega))
  obtain ⟨f0, f1, f2, f3, f4⟩ := hk4.cells
  have ff := hk4.frozen
  have HK4' := Lib.hid hk4
  clear hp hr4 hrp hk4
  go_wp2_with fail
  refine ret_cell5 rfl rfl (((((HK4'.out.set0 _).set1 _).set2 _).set3 _).set4 _).load rfl ?_
  exact pdoc_out (res := b + 4) HP.out (by omega) (by omega) (by omega) HBW.out hrb HR4.out (keyedP_ok HRP.out) (fun k hk => by
    rw [Below.heap_setCell _ _ _ k (by exact hk), Below.heap_setCell _ _ _ k (by exact hk), Below.heap_setCell _ _ _ k (by exact hk), Below.heap_setCell _ _ _ k (by exact hk), Below.heap_setCell _ _ _ k (by exact hk)]) (by simp) ⟨by simp only [so_os], by simp only [so_tape], by simp only [so_out]⟩
end Go.Proofs.YtmnaaohhageihaaDoor
