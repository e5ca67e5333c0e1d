/-
  The grammar: what is read grows no text, and few parts; keys rise.
-/
import Derived.Test.YtmnaaohhageihaaDoorB06
import Derived.Test.YtmnaaohhageihaaDoorCTokM
import Derived.Test.YtmnaaohhageihaaDoorCKeyed1
namespace Go.Proofs.YtmnaaohhageihaaDoor

theorem scmp_ne_one {a b : ByteArray} (h : scmp a b ≠ -1) (h0 : scmp a b ≠ 0) : scmp b a = -1 := by
  rcases scmp_ordered.cases a b trivial trivial with h1 | h1 | h1
  · exact absurd h1 h
  · exact absurd h1 h0
  · have := scmp_ordered.flip a b trivial trivial; omega
theorem rising_ins {ks : List ByteArray} {K : ByteArray} (hr : Rising ks) (hh : hasB ks K = false) : Rising (insK ks (placeOf ks K) K) := by
  obtain ⟨i, hi⟩ : ∃ i, i = placeOf ks K := ⟨_, rfl⟩
  have hle : i ≤ ks.length := by rw [hi]; exact placeOf_le _ _
  have hlo : ∀ (t : Nat) (h : t < ks.length), t < i → scmp ks[t] K = -1 := fun t h ht => (placeOf_lt hr t h).2 (by rw [← hi]; exact ht)
  have hhi : ∀ (h : i < ks.length), scmp K ks[i] = -1 := fun h => by
    refine scmp_ne_one (fun e => ?_) (fun e => ?_)
    · have := (placeOf_lt hr i h).1 e; omega
    · have h1 := scmp_eq e
      unfold hasB at hh
      rw [← hi, List.getElem?_eq_getElem h] at hh
      simp only at hh
      rw [h1] at hh; cases hh
  rw [← hi]
  intro j hj
  have hlen := insK_len ks i K hle
  rw [hlen] at hj
  have get : ∀ (t : Nat) (h : t < (insK ks i K).length), (insK ks i K)[t]? = if t < i then ks[t]? else if t = i then some K else ks[t - 1]? := fun t _ => by
    unfold insK
    by_cases h1 : t < i
    · rw [if_pos h1, List.getElem?_append_left (by simp; omega), List.getElem?_take, if_pos h1]
    · rw [if_neg h1, List.getElem?_append_right (by simp; omega)]
      simp only [List.length_take, Nat.min_eq_left hle]
      by_cases h2 : t = i
      · subst h2; simp
      · rw [if_neg h2]
        obtain ⟨m, hm⟩ : ∃ m, t - i = m + 1 := ⟨t - i - 1, by omega⟩
        rw [hm, List.getElem?_cons_succ, List.getElem?_drop]
        congr 1; omega
  have at_ : ∀ (t : Nat) (h : t < (insK ks i K).length) (x : ByteArray), (insK ks i K)[t]? = some x → (insK ks i K)[t] = x := fun t h x hx => by
    rw [List.getElem?_eq_getElem h] at hx; injection hx
  have hA : j < (insK ks i K).length := by omega
  have hB : j + 1 < (insK ks i K).length := by omega
  rcases Nat.lt_trichotomy (j + 1) i with h1 | h1 | h1
  · have e1 := at_ j hA ks[j] (by rw [get j hA, if_pos (by omega), List.getElem?_eq_getElem (by omega)])
    have e2 := at_ (j + 1) hB ks[j + 1] (by rw [get (j + 1) hB, if_pos h1, List.getElem?_eq_getElem (by omega)])
    rw [e1, e2]; exact hr j (by omega)
  · have e1 := at_ j hA ks[j] (by rw [get j hA, if_pos (by omega), List.getElem?_eq_getElem (by omega)])
    have e2 := at_ (j + 1) hB K (by rw [get (j + 1) hB, if_neg (by omega), if_pos h1])
    rw [e1, e2]; exact hlo j (by omega) (by omega)
  · rcases Nat.lt_or_ge i j with h2 | h2
    · have e1 := at_ j hA ks[j - 1] (by rw [get j hA, if_neg (by omega), if_neg (by omega), List.getElem?_eq_getElem (by omega)])
      have e2 := at_ (j + 1) hB ks[j] (by rw [get (j + 1) hB, if_neg (by omega), if_neg (by omega), Nat.add_sub_cancel, List.getElem?_eq_getElem (by omega)])
      rw [e1, e2]
      have h3 := hr (j - 1) (by omega)
      have e3 : j - 1 + 1 = j := by omega
      simpa only [e3] using h3
    · obtain rfl : j = i := by omega
      have e1 := at_ j hA K (by rw [get j hA, if_neg (by omega), if_pos rfl])
      have e2 := at_ (j + 1) hB ks[j] (by rw [get (j + 1) hB, if_neg (by omega), if_neg (by omega), Nat.add_sub_cancel, List.getElem?_eq_getElem (by omega)])
      rw [e1, e2]; exact hhi (by omega)
theorem skip_len (l : List UInt8) : (skipL l).length ≤ l.length := (skip_suf l).length_le
theorem tail_len (l : List UInt8) : l.tail.length ≤ l.length := by simp
theorem name_len {l l' v : List UInt8} (h : nameP l = .ok v l') : l'.length ≤ l.length := by
  unfold nameP at h
  split at h
  · split at h
    · cases h
    · injection h with _ h; rw [← h]; exact (List.dropWhile_suffix _).length_le
  · cases h
theorem word_len : ∀ {z l l' : List UInt8} {u : Unit}, wordP z l = .ok u l' → l'.length ≤ l.length
  | [], l, l', u, h => by injection h with _ h; rw [h]; exact Nat.le_refl _
  | c :: t, l, l', u, h => by
    rw [wordP_cons] at h
    split at h
    · exact Nat.le_trans (word_len h) (tail_len l)
    · cases h
theorem bytesF_len : ∀ {f : Nat} {l acc l' v : List UInt8}, bytesF f l acc = .ok v l' → l'.length ≤ l.length
  | 0, l, acc, l', v, h => by cases h
  | f + 1, l, acc, l', v, h => by
    by_cases h1 : pk l = 34
    · rw [bytesF_end h1] at h; injection h with _ h; rw [← h]; exact tail_len l
    · rcases hi : innerP l with ⟨c, l2⟩ | ⟨a, b⟩
      · rw [bytesF_go h1 hi] at h
        exact Nat.le_trans (bytesF_len h) (Nat.le_of_lt (inner_ok hi).2)
      · rw [bytesF_bad h1 hi] at h; cases h
theorem bytes_len {l l' v : List UInt8} (h : bytesP l = .ok v l') : l'.length ≤ l.length := by
  unfold bytesP at h
  split at h
  · exact Nat.le_trans (bytesF_len h) (tail_len l)
  · cases h
theorem short_len {l l' v : List UInt8} (h : shortP l = .ok v l') : l'.length ≤ l.length := by
  unfold shortP at h
  rcases hb : bytesP l with ⟨s, l2⟩ | ⟨a, b⟩
  · rw [hb] at h; simp only at h
    split at h
    · cases h
    · injection h with _ h; rw [← h]; exact bytes_len hb
  · rw [hb] at h; cases h
theorem number_len {l l' : List UInt8} {v : Int} (h : numberP l = .ok v l') : l'.length ≤ l.length := by
  rcases hd : digitsP l with ⟨u, l2⟩ | ⟨a, b⟩
  · have hs := (digits_suf hd).length_le
    rcases atoi_of_digits hd with ⟨n, hn⟩ | hn
    · rw [number_ok hd hn] at h; injection h with _ h; rw [← h]; exact hs
    · rw [number_far hd hn] at h; cases h
  · rw [number_bad hd] at h; cases h
/-- What an item tells that goes on. -/
def Fine {σ : Type} (item : σ → List UInt8 → Nat → Out σ) : Prop := ∀ st l p st' l' p', p ≤ 512 → item st l p = .ok st' l' p' → p < p' ∧ p' ≤ 512 ∧ l'.length ≤ l.length
theorem rowL_fine {σ : Type} {item : σ → List UInt8 → Nat → Out σ} (hi : Fine item) (e : UInt8) : ∀ (f : Nat) (st : σ) (l : List UInt8) (p : Nat) (st' : σ) (l' : List UInt8) (p' : Nat), p ≤ 512 → rowL item e f st l p = .ok st' l' p' → p ≤ p' ∧ p' ≤ 512 ∧ l'.length ≤ l.length
  | 0, st, l, p, st', l', p', _, h => by cases h
  | f + 1, st, l, p, st', l', p', hp, h => by
    rcases hit : item st l p with ⟨s2, l2, p2⟩ | ⟨a, b⟩
    · obtain ⟨h1, h2, h3⟩ := hi _ _ _ _ _ _ hp hit
      have h4 := skip_len l2
      have h5 := tail_len (skipL l2)
      by_cases he : pk (skipL l2) = e
      · rw [rowL_end hit he] at h; injection h with _ ha hb; subst ha; subst hb; exact ⟨by omega, h2, by omega⟩
      · by_cases hc : pk (skipL l2) = 44
        · rw [rowL_go hit he hc] at h
          obtain ⟨g1, g2, g3⟩ := rowL_fine hi e f _ _ _ _ _ _ h2 h
          exact ⟨by omega, g2, by omega⟩
        · rw [rowL_no hit he hc] at h; cases h
    · rw [rowL_bad hit] at h; cases h
theorem rowP_fine {σ : Type} {item : σ → List UInt8 → Nat → Out σ} (hi : Fine item) {e : UInt8} {st st' : σ} {l l' : List UInt8} {p p' : Nat} (hp : p ≤ 512) (h : rowP item e st l p = .ok st' l' p') : p ≤ p' ∧ p' ≤ 512 ∧ l'.length ≤ l.length := by
  unfold rowP at h
  have h1 := tail_len l
  have h2 := skip_len l.tail
  have h3 := tail_len (skipL l.tail)
  split at h
  · injection h with _ ha hb; subst ha; subst hb; exact ⟨Nat.le_refl _, hp, by omega⟩
  · obtain ⟨g1, g2, g3⟩ := rowL_fine hi e _ _ _ _ _ _ _ hp h
    exact ⟨g1, g2, by omega⟩
def FineD (doc : List UInt8 → Nat → Out D) : Prop := ∀ l p d l' p', p ≤ 512 → doc l p = .ok d l' p' → p < p' ∧ p' ≤ 512 ∧ l'.length ≤ l.length
theorem listI_fine {doc : List UInt8 → Nat → Out D} (hd : FineD doc) : Fine (listI doc) := fun st l p st' l' p' hp h => by
  unfold listI at h
  rcases hx : doc l p with ⟨d, l2, p2⟩ | ⟨a, b⟩
  · rw [hx] at h; injection h with _ ha hb; subst ha; subst hb; exact hd _ _ _ _ _ hp hx
  · rw [hx] at h; cases h
theorem keyI_fine {doc : List UInt8 → Nat → Out D} (hd : FineD doc) {key : List UInt8 → Tk (List UInt8)} (hk : ∀ l v l', key l = .ok v l' → l'.length ≤ l.length) (sign : UInt8) : Fine (keyI doc key sign) := fun st l p st' l' p' hp h => by
  rcases hx : key (skipL l) with ⟨k, l1⟩ | ⟨a, b⟩
  · cases hh : hasB st.1 ⟨k.toArray⟩
    · by_cases hs : pk (skipL l1) = sign
      · rcases hy : doc (skipL l1).tail p with ⟨d, l2, p2⟩ | ⟨a, b⟩
        · rw [keyI_ok hx hh hs hy] at h
          injection h with _ ha hb; subst ha; subst hb
          obtain ⟨g1, g2, g3⟩ := hd _ _ _ _ _ hp hy
          have h1 := hk _ _ _ hx
          have h2 := skip_len l
          have h3 := skip_len l1
          have h4 := tail_len (skipL l1)
          exact ⟨g1, g2, by omega⟩
        · rw [keyI_doc hx hh hs hy] at h; cases h
      · rw [keyI_sign hx hh hs] at h; cases h
    · rw [keyI_has hx hh] at h; cases h
  · rw [keyI_key hx] at h; cases h
theorem part_fine {doc : List UInt8 → Nat → Out D} (hd : FineD doc) {l l' : List UInt8} {p p' : Nat} {d : D} (hp : p ≤ 512) (h : partP doc l p = .ok d l' p') : p ≤ p' ∧ p' ≤ 512 ∧ l'.length ≤ l.length := by
  unfold partP at h
  split at h
  · unfold keyedP at h
    rcases hx : rowP (keyI doc nameP 61) 125 ([], []) l p with ⟨st, l2, p2⟩ | ⟨a, b⟩
    · rw [hx] at h; injection h with _ ha hb; subst ha; subst hb
      exact rowP_fine (keyI_fine hd (fun _ _ _ => name_len) 61) hp hx
    · rw [hx] at h; cases h
  · split at h
    · unfold keyedP at h
      rcases hx : rowP (keyI doc shortP 58) 62 ([], []) l p with ⟨st, l2, p2⟩ | ⟨a, b⟩
      · rw [hx] at h; injection h with _ ha hb; subst ha; subst hb
        exact rowP_fine (keyI_fine hd (fun _ _ _ => short_len) 58) hp hx
      · rw [hx] at h; cases h
    · split at h
      · unfold listP at h
        rcases hx : rowP (listI doc) 93 [] l p with ⟨st, l2, p2⟩ | ⟨a, b⟩
        · rw [hx] at h; injection h with _ ha hb; subst ha; subst hb
          exact rowP_fine (listI_fine hd) hp hx
        · rw [hx] at h; cases h
      · split at h
        · rcases hx : wordP [116, 114, 117, 101] l with ⟨u, l2⟩ | ⟨a, b⟩
          · rw [hx] at h; injection h with _ ha hb; subst ha; subst hb; exact ⟨Nat.le_refl _, hp, word_len hx⟩
          · rw [hx] at h; cases h
        · split at h
          · rcases hx : wordP [102, 97, 108, 115, 101] l with ⟨u, l2⟩ | ⟨a, b⟩
            · rw [hx] at h; injection h with _ ha hb; subst ha; subst hb; exact ⟨Nat.le_refl _, hp, word_len hx⟩
            · rw [hx] at h; cases h
          · split at h
            · rcases hx : shortP l with ⟨u, l2⟩ | ⟨a, b⟩
              · rw [hx] at h; injection h with _ ha hb; subst ha; subst hb; exact ⟨Nat.le_refl _, hp, short_len hx⟩
              · rw [hx] at h; cases h
            · rcases hx : numberP l with ⟨u, l2⟩ | ⟨a, b⟩
              · rw [hx] at h; injection h with _ ha hb; subst ha; subst hb; exact ⟨Nat.le_refl _, hp, number_len hx⟩
              · rw [hx] at h; cases h
theorem docP_fine : ∀ n, FineD (docP n)
  | 0 => fun l p d l' p' _ h => by unfold docP at h; split at h <;> cases h
  | n + 1 => fun l p d l' p' hp h => by
    unfold docP at h
    split at h
    · cases h
    · split at h
      · cases h
      · obtain ⟨g1, g2, g3⟩ := part_fine (docP_fine n) (by omega) h
        have := skip_len l
        exact ⟨by omega, g2, by omega⟩
end Go.Proofs.YtmnaaohhageihaaDoor
