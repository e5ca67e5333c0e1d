/-
  
-/
import Derived.Test.YtdgnengfcabgjaaB27
namespace Go.Proofs.Ytdgnengfcabgjaa
open Go.RowKit

mutual
def partB : D → Bool
  | .mk k n s ks l => soundB (.mk k n s ks l) && partsB l
def partsB : List D → Bool
  | [] => true
  | d :: r => partB d && partsB r
end
theorem partB_eq (d : D) : partB d = (soundB d && partsB d.kids) := by obtain ⟨_, _, _, _, _⟩ := d; simp only [partB, D.kids]
theorem partsB_at : ∀ {l : List D}, partsB l = true → ∀ {i : Nat} (h : i < l.length), partB l[i] = true
  | [], _, i, h => by simp at h
  | d :: r, hp, 0, _ => by simp only [partsB, Bool.and_eq_true] at hp; exact hp.1
  | d :: r, hp, i + 1, h => by simp only [partsB, Bool.and_eq_true] at hp; exact partsB_at hp.2 (by simpa using h)
theorem partsB_all : ∀ {l : List D}, (∀ (i : Nat) (h : i < l.length), partB l[i] = true) → partsB l = true
  | [], _ => by simp [partsB]
  | d :: r, hp => by
    simp only [partsB, Bool.and_eq_true]
    exact ⟨hp 0 (by simp), partsB_all fun i h => hp (i + 1) (by simpa using h)⟩
theorem D.depths_le {l : List D} {m : Nat} (h : ∀ (i : Nat) (h : i < l.length), (l[i]).depth ≤ m) : D.depths l ≤ m := by
  induction l with
  | nil => simp [D.depths]
  | cons d r ih =>
    simp only [D.depths]
    have h0 := h 0 (by simp)
    have := ih fun i hi => h (i + 1) (by simpa using hi)
    simp at h0
    omega
theorem D.size_eq (d : D) : d.size = D.sizes d.kids + 1 := by obtain ⟨_, _, _, _, _⟩ := d; simp [D.size, D.kids]
/-- No deeper, no more parts than these, and all parts right. -/
def okB (d : D) (dp : Nat) (p : Int) : Bool := decide (d.depth ≤ dp) && (decide ((d.size : Int) ≤ p) && partB d)
def restV (d : D) (dp : Nat) (p : Int) : Int := if okB d dp p = true then p - d.size else -1
theorem okB_iff {d : D} {dp : Nat} {p : Int} : okB d dp p = true ↔ d.depth ≤ dp ∧ (d.size : Int) ≤ p ∧ partB d = true := by simp [okB]
theorem restV_bad {d : D} {dp : Nat} {p : Int} (h : ¬ (d.depth ≤ dp ∧ (d.size : Int) ≤ p ∧ partB d = true)) : restV d dp p = -1 := by
  unfold restV; rw [if_neg (by rw [okB_iff]; exact h)]
theorem restV_ok {d : D} {dp : Nat} {p : Int} (h : d.depth ≤ dp ∧ (d.size : Int) ≤ p ∧ partB d = true) : restV d dp p = p - d.size := by
  unfold restV; rw [if_pos (by rw [okB_iff]; exact h)]

set_option maxHeartbeats 4000000 in
set_option maxRecDepth 100000 in
theorem rest_any (m : Nat) : ∀ (d : D) (v0 v1 v2 v3 v4 : Value) (w : World) (B : Nat) (dp : Nat) (p : Int), d.depth ≤ m → d.Fit → B ≤ w.heap.size → DocIn w B d v0 v1 v2 v3 v4 → dp ≤ 1000 → -1 ≤ p → p ≤ 10000 →
    Calls Try.prog 53 #[.agg #[v0, v1, v2, v3, v4], .int .i64 (dp : Int), .int .i64 p] w fun e w' => e = .returned (.int .i64 (restV d dp p)) ∧ Below w.heap.size w w' := by
  induction m with
  | zero => intro d; obtain ⟨_, _, _, _, _⟩ := d; intro _ _ _ _ _ _ _ _ _ h; simp [D.depth] at h
  | succ m ih =>
    intro d v0 v1 v2 v3 v4 w B dp p hm hf hB hd hdp hp1 hp2
    have HF := Lib.hid hf
    have hlen := hf.kids
    clear hf
    have HD := Lib.hid hd
    obtain ⟨A3, c3, A4, c4, rfl, rfl, rfl, rfl, rfl⟩ := hd.forms
    have H4 := Lib.hid hd.kids_; clear hd
    have IH := Lib.hid ih; clear ih
    have HDE := Lib.hid (D.depth_eq d)
    have HSE := Lib.hid (D.size_eq d)
    have hdl := D.len_le_sizes d.kids
    have hsp := D.size_pos d
    by_cases h0 : dp = 0
    · have E := Lib.hid (restV_bad (d := d) (dp := dp) (p := p) (fun h => by have := HDE.out; omega))
      have g0 : ((dp : Int) == 0) = true := by simp [h0]
      clear h0
      go_enter Try.func53, Try.ntmps53
      go_wp2_with fail
      go_ret
      exact ⟨ret_int E.out.symm, (Below.refl _ _).alloc (Nat.le_refl _) _⟩
    have g0 : ((dp : Int) == 0) = false := by simp; omega
    by_cases h1 : p ≤ (d.kids.length : Int)
    · have E := Lib.hid (restV_bad (d := d) (dp := dp) (p := p) (fun h => by have := HSE.out; omega))
      go_enter Try.func53, Try.ntmps53
      go_wp2_with fail
      go_ret
      exact ⟨ret_int E.out.symm, (Below.refl _ _).alloc (Nat.le_refl _) _⟩
    have h1' : decide (p ≤ (d.kids.length : Int)) = false := by simp; omega
    cases hsd : soundB d with
    | false =>
      have E := Lib.hid (restV_bad (d := d) (dp := dp) (p := p) (fun h => by have := h.2.2; rw [partB_eq, hsd] at this; cases this))
      go_enter Try.func53, Try.ntmps53
      go_wp2_with fail
      refine (sound_any (B := B) HF.out (by simp; omega) (HD.out.keep (Nat.le_refl _) fun p hp => World.cell?_alloc_lt w _ p (by omega))).mono ?_
      rintro e w1 ⟨rfl, hb1⟩
      go_wp2_with fail
      go_ret
      exact ⟨ret_int E.out.symm, ((Below.refl _ _).alloc (Nat.le_refl _) _).trans (hb1.mono (by simp))⟩
    | true =>
      go_enter Try.func53, Try.ntmps53
      go_wp2_with fail
      refine (sound_any (B := B) HF.out (by simp; omega) (HD.out.keep (Nat.le_refl _) fun p hp => World.cell?_alloc_lt w _ p (by omega))).mono ?_
      rintro e w1 ⟨rfl, hb1⟩
      obtain ⟨bc1, bf1⟩ := below_add hb1
      have hz1 := hb1.size
      simp only [World.size_alloc] at hz1
      go_wp2_with fail
      go_loopw [2, 28] (fun t i wr => ∃ (k : Nat) (q : Int), k ≤ d.kids.length ∧ i = .int .i64 k ∧ t = .int .i64 q ∧ q = p - 1 - D.sizes (d.kids.take k) ∧ 0 ≤ q ∧
          (∀ (j : Nat) (h : j < d.kids.length), j < k → (d.kids[j]).depth ≤ dp - 1 ∧ partB d.kids[j] = true) ∧ Below w.heap.size w wr) (fun _ i _ => d.kids.length - (intOf i).toNat)
      case atStart => exact ⟨0, p - 1, Nat.zero_le _, rfl, rfl, by simp [D.sizes], by omega, fun j _ hj => absurd hj (by omega), ((Below.refl _ _).alloc (Nat.le_refl _) _).trans (hb1.mono (by simp))⟩
      case round =>
        obtain ⟨k, q, hk, rfl, rfl, hq, hq0, hall, hb⟩ := hrel
        have HQ := Lib.hid hq
        have hq2 : q ≤ 10000 := by omega
        have HA := Lib.hid hall
        clear hq hall bc1 bf1
        by_cases hlt : k < d.kids.length
        · obtain ⟨_, _, h4⟩ := H4.out
          obtain ⟨b, off, rfl, hab, hkids⟩ := h4 (by omega)
          have hcells := KidsIn.at_ hkids k hlt
          rw [Nat.zero_add] at hcells
          obtain ⟨u0, u1, u2, u3, u4, x0, x1, x2, x3, x4, hdk⟩ := hcells
          have bc : ∀ n, wr.cell? ⟨b, n, none⟩ = w.cell? ⟨b, n, none⟩ := fun n => hb.cell (p := ⟨b, n, none⟩) (by show b < _; omega)
          rw [← bc] at x0 x1 x2 x3 x4
          clear bc hkids h4
          obtain ⟨A5, c5, A6, c6, rfl, rfl, rfl, rfl, rfl⟩ := hdk.forms
          have HK := Lib.hid hdk; clear hdk
          have HT := Lib.hid (D.sizes_take_succ d.kids k hlt)
          have hts := D.sizes_take_le d.kids (k + 1)
          have hkd : (d.kids[k]).depth ≤ m := by have := D.depth_kid (d := d) hlt; omega
          have hdp1 : (dp : Int) - 1 = ((dp - 1 : Nat) : Int) := by omega
          have HDP := Lib.hid hdp1; clear hdp1
          have hz := hb.size
          go_wp2_with fail
          rw [HDP.out]
          refine (IH.out d.kids[k] _ _ _ _ _ _ B (dp - 1) q hkd (HF.out.kid hlt) ?_ ?_ (by omega) (by omega) (by omega)).mono ?_
          · simp; omega
          · exact DocIn.keep (Nat.le_refl _) (fun p hp => ((World.cell?_alloc_lt wr _ p (by omega)).trans (hb.cell (by omega)))) HK.out
          rintro e w2 ⟨rfl, hb2⟩
          have hb3 : Below w.heap.size w w2 := (hb.alloc (by omega) _).trans (hb2.mono (by simp; omega))
          by_cases hok : (d.kids[k]).depth ≤ dp - 1 ∧ ((d.kids[k]).size : Int) ≤ q ∧ partB d.kids[k] = true
          · have hv := restV_ok hok
            have hv0 : 0 ≤ restV d.kids[k] (dp - 1) q := by rw [hv]; omega
            have HV := Lib.hid hv; clear hv
            go_wp2_with fail
            go_roundw
            case rel => exact ⟨k + 1, restV d.kids[k] (dp - 1) q, by omega, by go_num, rfl, by rw [HT.out, HV.out, HQ.out]; omega, hv0, fun j h hj => by
              rcases Nat.lt_or_ge j k with h1 | h1
              · exact HA.out j h h1
              · obtain rfl : j = k := by omega
                exact ⟨hok.1, hok.2.2⟩, hb3⟩
            case measure => simp [intOf]; omega
          · have hv := restV_bad hok
            have hv0 : restV d.kids[k] (dp - 1) q < 0 := by rw [hv]; omega
            clear hv
            have E := Lib.hid (restV_bad (d := d) (dp := dp) (p := p) (fun h => hok ⟨by have := D.depth_kid (d := d) hlt; omega, by have := HT.out; have := HSE.out; have := HQ.out; omega, by
              have := h.2.2; rw [partB_eq, Bool.and_eq_true] at this; exact partsB_at this.2 hlt⟩))
            clear hok
            go_wp2_with fail
            go_ret
            exact ⟨ret_int E.out.symm, hb3⟩
        · have htk : d.kids.take k = d.kids := List.take_of_length_le (by omega)
          have E := Lib.hid (restV_ok (d := d) (dp := dp) (p := p) ⟨by
            rw [HDE.out]; have := D.depths_le (l := d.kids) (m := dp - 1) (fun i hi => (HA.out i hi (by omega)).1); omega, by
            have := HSE.out; have := HQ.out; rw [htk] at this; omega, by
            rw [partB_eq, hsd, partsB_all fun i hi => (HA.out i hi (by omega)).2]; rfl⟩)
          have HT := Lib.hid htk; clear htk
          go_wp2_with fail
          go_ret
          exact ⟨ret_int (by rw [E.out, HQ.out, HT.out, HSE.out]; omega), hb⟩

def rightB (d : D) : Bool := okB d 12 512
set_option maxHeartbeats 400000 in
theorem right_v {d : D} {v : Value} {w : World} {B : Nat} (hf : d.Fit) (hB : B ≤ w.heap.size) (hd : DocV w B d v) :
    Calls Try.prog 26 #[v] w fun e w' => e = .returned (.bool (rightB d)) ∧ Below w.heap.size w w' := by
  have HV := Lib.hid hd
  obtain ⟨v0, v1, v2, v3, v4, rfl, hd⟩ := hd
  have HD := Lib.hid hd
  obtain ⟨A3, c3, A4, c4, rfl, rfl, rfl, rfl, rfl⟩ := hd.forms
  clear hd
  go_enter Try.func26, Try.ntmps26
  go_wp2_with fail
  refine (rest_any d.depth d _ _ _ _ _ _ B 12 512 (Nat.le_refl _) hf (by simp; omega) (HD.out.keep (Nat.le_refl _) fun p hp => World.cell?_alloc_lt w _ p (by omega)) (by omega) (by omega) (by omega)).mono ?_
  rintro e w1 ⟨rfl, hb1⟩
  have hb2 : Below w.heap.size w w1 := ((Below.refl _ _).alloc (Nat.le_refl _) _).trans (hb1.mono (by simp))
  cases hok : rightB d with
  | true =>
    have hv : 0 ≤ restV d 12 512 := by have := okB_iff.1 hok; rw [restV_ok this]; omega
    go_wp2_with fail
    go_ret
    exact ⟨ret_bool hok.symm, hb2⟩
  | false =>
    have hv : restV d 12 512 < 0 := by rw [restV_bad (fun h => by rw [← okB_iff] at h; unfold rightB at hok; rw [hok] at h; cases h)]; omega
    go_wp2_with fail
    go_ret
    exact ⟨ret_bool (by rw [hok]; simp; omega), hb2⟩
end Go.Proofs.Ytdgnengfcabgjaa
