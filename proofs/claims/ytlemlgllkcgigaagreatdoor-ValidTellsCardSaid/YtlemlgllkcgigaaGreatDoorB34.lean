/-
  The document's own All, Check, Is: what they tell, and rows of faults that can be read.
-/
import Derived.Test.YtlemlgllkcgigaaGreatDoorB16
import Derived.Test.YtlemlgllkcgigaaGreatDoorB33
import Derived.Test.YtlemlgllkcgigaaGreatDoorB29
namespace Go.Proofs.YtlemlgllkcgigaaGreatDoor
open Go.RowKit

theorem fitsV_eq (t : T) (d : D) : fitsV t d = 0 ∨ fitsV t d = 7 ∨ fitsV t d = 8 := by
  have := fitsV_is t d; omega
theorem faults_err (m : Nat) : ∀ (t : T) (d : D) (p : List ByteArray), t.depth ≤ m → ∀ f ∈ t.faults d p, f.2 ≠ 0 := by
  induction m with
  | zero => intro t _ _ h; have := T.depth_pos t; omega
  | succ m ih =>
    intro t d p hm f hf
    rw [faults_eq, List.mem_append] at hf
    rcases hf with hf | hf
    · split at hf
      · cases hf
      · simp only [List.mem_singleton] at hf; subst hf; assumption
    by_cases h7 : fitsV t d = 7
    · rw [if_pos h7] at hf; cases hf
    rw [if_neg h7] at hf
    by_cases hk : t.kind = 1
    · rw [if_pos hk, List.mem_append] at hf
      rcases hf with hf | hf
      · have hF : ∀ l : List F, (∀ f ∈ l, f.type.depth ≤ m) → ∀ f ∈ faultsF l d p, f.2 ≠ 0 := by
          intro l
          induction l with
          | nil => intro _ f hf; simp [faultsF] at hf
          | cons g r ihl =>
            intro hl f hf
            simp only [faultsF, List.mem_append] at hf
            rcases hf with hf | hf
            · rw [faultsF1_eq] at hf
              split at hf
              · exact ih _ _ _ (hl g (by simp)) f hf
              · split at hf
                · cases hf
                · simp only [List.mem_singleton] at hf; subst hf; simp
            · exact ihl (fun g hg => hl g (by simp [hg])) f hf
        refine hF t.fields (fun f hf => ?_) f hf
        obtain ⟨i, hi, e⟩ := List.getElem_of_mem hf
        have := T.field_depth (t := t) (i := i) hi
        rw [e] at this; omega
      · obtain ⟨s, _, rfl⟩ := List.mem_map.1 hf; simp
    · rw [if_neg hk] at hf
      cases ho : t.of with
      | nil => rw [ho] at hf; simp [faultsO] at hf
      | cons x r =>
        have hxd : x.depth ≤ m := by have := T.of_depth (t := t) (i := 0) (by rw [ho]; simp); simp only [ho, List.getElem_cons_zero] at this; omega
        rw [ho] at hf
        simp only [faultsO, List.mem_flatten, List.mem_map] at hf
        obtain ⟨l, ⟨ki, _, rfl⟩, hf⟩ := hf
        exact ih x _ _ hxd f hf
theorem allV_err (t : T) (d : D) : ∀ f ∈ allV t d, f.2 ≠ 0 := by
  unfold allV; split
  · exact faults_err _ t d [] (Nat.le_refl _)
  · intro f hf; simp only [List.mem_singleton] at hf; subst hf; simp
theorem isV_iff (t : T) (d : D) : isV t d = decide (allV t d = []) := by
  unfold isV firstV
  have h := allV_err t d
  cases e : allV t d with
  | nil => rfl
  | cons f r => rw [e] at h; simpa using h f (by simp)
theorem isV_len (t : T) (d : D) : isV t d = decide ((allV t d).length = 0) := by
  rw [isV_iff]; simp
theorem rall_any : ∀ m, RAllTo m
  | 0 => fun t _ _ _ _ _ _ _ _ h => by have := T.depth_pos t; omega
  | m + 1 => fun t d tv uv pv w B S0 p hm hall hf hfd hpd hds hlen hpl hB ht hd hp hS0 => by
    by_cases hk : t.kind = 1
    · exact rall_rec (rall_any m) hk hm hall hf hfd hpd hds hlen hpl hB ht hd hp hS0
    · exact rall_kids (rall_any m) hk hm hall hf hfd hpd hds hlen hpl hB ht hd hp hS0
/-- A row of faults that can be read, all of it in blocks of the set. -/
def FltsV (w : World) (S : Nat → Prop) (u : Value) (l : List Flt) : Prop :=
  ∃ (A : Option Addr) (c : Nat) (cs : List Value), u = .slice A l.length c ∧ l.length ≤ c ∧ FltR w S l cs ∧ (0 < l.length → ∃ b off, A = some ⟨b, off, none⟩ ∧ S b ∧ ∀ j x, cs[j]? = some x → w.cell? ⟨b, off + j, none⟩ = some x)
theorem FltsV.keep {w w' : World} {S S' : Nat → Prop} {u : Value} {l : List Flt} (h : FltsV w S u l) (hS : ∀ k, S k → S' k) (hc : ∀ p : Addr, S p.block → w'.cell? p = w.cell? p) : FltsV w' S' u l := by
  obtain ⟨A, c, cs, rfl, h0, h1, h2⟩ := h
  refine ⟨A, c, cs, rfl, h0, h1.keep hS hc, fun hl => ?_⟩
  obtain ⟨b, off, rfl, h3, h4⟩ := h2 hl
  exact ⟨b, off, rfl, hS b h3, fun j x hj => (hc ⟨b, off + j, none⟩ h3).trans (h4 j x hj)⟩
theorem FltIn.fltR {w : World} {base : Nat} : ∀ {l : List Flt} {cs : List Value} {F : List Nat}, FltIn w base l cs F → FltR w (fun k => base ≤ k ∧ k < w.heap.size) l cs
  | [], _, _, h => by simp only [FltIn] at h; simpa [FltR] using h.1
  | f :: r, _, _, h => by
    simp only [FltIn] at h
    obtain ⟨v, cs', F', rfl, h1, h2, _⟩ := h
    exact ⟨v, cs', rfl, (strsS_own h1).keep (fun k hk => h1.lt k hk) fun _ _ => rfl, h2.fltR⟩
theorem flts_own {w : World} {W0 : Nat} {S : Nat → Prop} {v : Value} {l : List Flt} {cs : List Value} (h1 : w.ownsRow W0 34 2 v l.length cs) (h2 : FltR w S l cs) (hS : ∀ k, W0 ≤ k → k < w.heap.size → S k) : FltsV w S v l := by
  obtain ⟨A, c, rfl⟩ := ownsRow_slice h1
  have hlt := h1.lt
  have hle : l.length ≤ c := by
    rcases h1.2 with ⟨e, h0⟩ | ⟨g, cap, cur, e, h3, _⟩
    · omega
    · injection e with e1 e2 e3; omega
  refine ⟨A, c, cs, rfl, hle, h2, fun hl => ?_⟩
  rcases h1.2 with ⟨e, h0⟩ | ⟨g, cap, cur, e, _⟩
  · omega
  · injection e with e1 e2 e3
    subst e1
    refine ⟨g, 0, rfl, hS g (hlt g rfl).1 (hlt g rfl).2, fun j x hj => ?_⟩
    have hc := h1.cells rfl j x hj
    have e : (⟨g, 0, none⟩ : Addr).add j = ⟨g, 0 + j, none⟩ := by unfold Addr.add; split <;> simp_all
    rwa [e] at hc
theorem RowF.flts {W0 : Nat} {S0 : Nat → Prop} {w : World} {l : List Flt} {v : Value} (h : RowF W0 S0 w l v) (hS0 : ∀ k, S0 k → W0 ≤ k) : FltsV w (fun k => W0 ≤ k ∧ k < w.heap.size) v l := by
  obtain ⟨cs, h1, h2⟩ := h.ex
  exact flts_own h1 (h2.keep (fun k hk => ⟨hk.1.elim (hS0 k) id, hk.2.1⟩) fun _ _ => rfl) fun _ a b => ⟨a, b⟩
theorem MadeFlts.flts {W0 : Nat} {w w' : World} {l : List Flt} {e : Ending} (h : MadeFlts W0 w l e w') : ∃ v, e = .returned v ∧ FltsV w' (fun k => W0 ≤ k ∧ k < w'.heap.size) v l ∧ Below W0 w w' := by
  obtain ⟨v, cs, F, rfl, h1, h2, h3⟩ := h
  exact ⟨v, rfl, flts_own h1 h2.fltR fun _ a b => ⟨a, b⟩, h3⟩
/-- One fault, in a row that was just made. -/
theorem flts_one {w : World} {S : Nat → Prop} {g : Nat} {pv : Value} {p : List ByteArray} {n : Int} (hg : S g) (hp : StrsS w S pv p) (h0 : w.cell? ⟨g, 0, none⟩ = some pv) (h1 : w.cell? ⟨g, 1, none⟩ = some (.int .i64 n)) {l : List Flt} (hl : l = [(p, n)]) : FltsV w S (.slice (some ⟨g, 0, none⟩) 1 1) l := by
  subst hl
  exact ⟨_, 1, [pv, .int .i64 n], rfl, Nat.le_refl _, ⟨pv, [], rfl, hp, rfl⟩, fun _ => ⟨g, 0, rfl, hg, fun j x hj => by
    match j, hj with
    | 0, hj => simp at hj; subst hj; simpa using h0
    | 1, hj => simp at hj; subst hj; simpa using h1⟩⟩
theorem FltR.at_ {w : World} {S : Nat → Prop} : ∀ {l : List Flt} {cs : List Value}, FltR w S l cs → ∀ (i : Nat) (h : i < l.length), ∃ v, cs[i * 2]? = some v ∧ cs[i * 2 + 1]? = some (.int .i64 (l[i]).2) ∧ StrsS w S v (l[i]).1
  | [], _, _, i, h => absurd h (by simp)
  | f :: r, _, hs, i, h => by
    simp only [FltR] at hs
    obtain ⟨v, cs', rfl, h1, h2⟩ := hs
    cases i with
    | zero => exact ⟨v, by simp, by simp, h1⟩
    | succ i =>
      obtain ⟨u, a, b, c⟩ := h2.at_ i (by simpa using h)
      refine ⟨u, ?_, ?_, by simpa using c⟩
      · rw [show (i + 1) * 2 = i * 2 + 1 + 1 by omega, List.getElem?_cons_succ, List.getElem?_cons_succ]; exact a
      · rw [show (i + 1) * 2 + 1 = (i * 2 + 1) + 1 + 1 by omega, List.getElem?_cons_succ, List.getElem?_cons_succ]; simpa using b
theorem StrsS.strsB {w : World} {S : Nat → Prop} {B : Nat} {v : Value} {xs : List ByteArray} (h : StrsS w S v xs) (hS : ∀ k, S k → k < B) : Strs w B v xs := by
  obtain ⟨A, c, e, hc, hcell⟩ := h
  exact ⟨A, c, e, hc, fun hl => by obtain ⟨b, off, e1, hb, h2⟩ := hcell hl; exact ⟨b, off, e1, hS b hb, h2⟩⟩
theorem strsS_nil (w : World) (S : Nat → Prop) : StrsS w S (.slice none 0 0) [] := ⟨none, 0, rfl, by simp, fun h => absurd h (by simp)⟩
theorem FltsV.at_ {w : World} {S : Nat → Prop} {u : Value} {l : List Flt} (h : FltsV w S u l) : ∃ (A : Option Addr) (c : Nat), u = .slice A l.length c ∧ l.length ≤ c ∧ ∀ (i : Nat) (h : i < l.length), ∃ b off v, A = some ⟨b, off, none⟩ ∧ S b ∧ w.cell? ⟨b, off + i * 2, none⟩ = some v ∧ w.cell? ⟨b, off + i * 2 + 1, none⟩ = some (.int .i64 (l[i]).2) ∧ StrsS w S v (l[i]).1 := by
  obtain ⟨A, c, cs, rfl, h0, h1, h2⟩ := h
  refine ⟨A, c, rfl, h0, fun i hi => ?_⟩
  obtain ⟨b, off, rfl, hb, hc⟩ := h2 (by omega)
  obtain ⟨v, a1, a2, a3⟩ := h1.at_ i hi
  exact ⟨b, off, v, rfl, hb, hc _ _ a1, by rw [Nat.add_assoc]; exact hc _ _ a2, a3⟩
theorem faultsT_len {t : T} {d : D} (h : bothB t d = true) (p : List ByteArray) : (t.faults d p).length ≤ 100000 := by
  obtain ⟨h1, _, _, _, h2, h3⟩ := bothB_parts h
  have := faults_le _ t d p (Nat.le_refl _) h3
  have h4 := Nat.mul_le_mul h1 h2
  omega
theorem allV_len (t : T) (d : D) : (allV t d).length ≤ 100000 := by
  unfold allV; split
  · rename_i h; exact faultsT_len h []
  · simp
end Go.Proofs.YtlemlgllkcgigaaGreatDoor
