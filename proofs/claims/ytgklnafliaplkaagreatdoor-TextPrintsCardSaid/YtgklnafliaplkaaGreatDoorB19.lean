/-
  The grammar: what is read grows no text, and few parts; keys rise.
  The grammar: no fault has the number 0.
  text.read with a closure that lays what it read into a variable.
  The reader: records and dictionaries.
-/
import Derived.Test.YtgklnafliaplkaaGreatDoorB03
import Derived.Test.YtgklnafliaplkaaGreatDoorB11
import Derived.Test.YtgklnafliaplkaaGreatDoorB17
import Derived.Test.YtgklnafliaplkaaGreatDoorB18
import Derived.Test.YtgklnafliaplkaaGreatDoorB16
namespace Go.Proofs.YtgklnafliaplkaaGreatDoor

theorem scmp_ne_one {a b : ByteArray} (h : scmp a b ≠ -1) (h0 : scmp a b ≠ 0) : scmp b a = -1 := by
  rcases scmp_ordered.cases a b trivial trivial with h1 | h1 | h1
  · exact absurd h1 h
  · exact absurd h1 h0
  · have := scmp_ordered.flip a b trivial trivial; omega
theorem rising_ins {ks : List ByteArray} {K : ByteArray} (hr : Rising ks) (hh : hasB ks K = false) : Rising (insK ks (placeOf ks K) K) := by
  obtain ⟨i, hi⟩ : ∃ i, i = placeOf ks K := ⟨_, rfl⟩
  have hle : i ≤ ks.length := by rw [hi]; exact placeOf_le _ _
  have hlo : ∀ (t : Nat) (h : t < ks.length), t < i → scmp ks[t] K = -1 := fun t h ht => (placeOf_lt hr t h).2 (by rw [← hi]; exact ht)
  have hhi : ∀ (h : i < ks.length), scmp K ks[i] = -1 := fun h => by
    refine scmp_ne_one (fun e => ?_) (fun e => ?_)
    · have := (placeOf_lt hr i h).1 e; omega
    · have h1 := scmp_eq e
      unfold hasB at hh
      rw [← hi, List.getElem?_eq_getElem h] at hh
      simp only at hh
      rw [h1] at hh; cases hh
  rw [← hi]
  intro j hj
  have hlen := insK_len ks i K hle
  rw [hlen] at hj
  have get : ∀ (t : Nat) (h : t < (insK ks i K).length), (insK ks i K)[t]? = if t < i then ks[t]? else if t = i then some K else ks[t - 1]? := fun t _ => by
    unfold insK
    by_cases h1 : t < i
    · rw [if_pos h1, List.getElem?_append_left (by simp; omega), List.getElem?_take, if_pos h1]
    · rw [if_neg h1, List.getElem?_append_right (by simp; omega)]
      simp only [List.length_take, Nat.min_eq_left hle]
      by_cases h2 : t = i
      · subst h2; simp
      · rw [if_neg h2]
        obtain ⟨m, hm⟩ : ∃ m, t - i = m + 1 := ⟨t - i - 1, by omega⟩
        rw [hm, List.getElem?_cons_succ, List.getElem?_drop]
        congr 1; omega
  have at_ : ∀ (t : Nat) (h : t < (insK ks i K).length) (x : ByteArray), (insK ks i K)[t]? = some x → (insK ks i K)[t] = x := fun t h x hx => by
    rw [List.getElem?_eq_getElem h] at hx; injection hx
  have hA : j < (insK ks i K).length := by omega
  have hB : j + 1 < (insK ks i K).length := by omega
  rcases Nat.lt_trichotomy (j + 1) i with h1 | h1 | h1
  · have e1 := at_ j hA ks[j] (by rw [get j hA, if_pos (by omega), List.getElem?_eq_getElem (by omega)])
    have e2 := at_ (j + 1) hB ks[j + 1] (by rw [get (j + 1) hB, if_pos h1, List.getElem?_eq_getElem (by omega)])
    rw [e1, e2]; exact hr j (by omega)
  · have e1 := at_ j hA ks[j] (by rw [get j hA, if_pos (by omega), List.getElem?_eq_getElem (by omega)])
    have e2 := at_ (j + 1) hB K (by rw [get (j + 1) hB, if_neg (by omega), if_pos h1])
    rw [e1, e2]; exact hlo j (by omega) (by omega)
  · rcases Nat.lt_or_ge i j with h2 | h2
    · have e1 := at_ j hA ks[j - 1] (by rw [get j hA, if_neg (by omega), if_neg (by omega), List.getElem?_eq_getElem (by omega)])
      have e2 := at_ (j + 1) hB ks[j] (by rw [get (j + 1) hB, if_neg (by omega), if_neg (by omega), Nat.add_sub_cancel, List.getElem?_eq_getElem (by omega)])
      rw [e1, e2]
      have h3 := hr (j - 1) (by omega)
      have e3 : j - 1 + 1 = j := by omega
      simpa only [e3] using h3
    · obtain rfl : j = i := by omega
      have e1 := at_ j hA K (by rw [get j hA, if_neg (by omega), if_pos rfl])
      have e2 := at_ (j + 1) hB ks[j] (by rw [get (j + 1) hB, if_neg (by omega), if_neg (by omega), Nat.add_sub_cancel, List.getElem?_eq_getElem (by omega)])
      rw [e1, e2]; exact hhi (by omega)
theorem skip_len (l : List UInt8) : (skipL l).length ≤ l.length := (skip_suf l).length_le
theorem tail_len (l : List UInt8) : l.tail.length ≤ l.length := by simp
theorem name_len {l l' v : List UInt8} (h : nameP l = .ok v l') : l'.length ≤ l.length := by
  unfold nameP at h
  split at h
  · split at h
    · cases h
    · injection h with _ h; rw [← h]; exact (List.dropWhile_suffix _).length_le
  · cases h
theorem word_len : ∀ {z l l' : List UInt8} {u : Unit}, wordP z l = .ok u l' → l'.length ≤ l.length
  | [], l, l', u, h => by injection h with _ h; rw [h]; exact Nat.le_refl _
  | c :: t, l, l', u, h => by
    rw [wordP_cons] at h
    split at h
    · exact Nat.le_trans (word_len h) (tail_len l)
    · cases h
theorem bytesF_len : ∀ {f : Nat} {l acc l' v : List UInt8}, bytesF f l acc = .ok v l' → l'.length ≤ l.length
  | 0, l, acc, l', v, h => by cases h
  | f + 1, l, acc, l', v, h => by
    by_cases h1 : pk l = 34
    · rw [bytesF_end h1] at h; injection h with _ h; rw [← h]; exact tail_len l
    · rcases hi : innerP l with ⟨c, l2⟩ | ⟨a, b⟩
      · rw [bytesF_go h1 hi] at h
        exact Nat.le_trans (bytesF_len h) (Nat.le_of_lt (inner_ok hi).2)
      · rw [bytesF_bad h1 hi] at h; cases h
theorem bytes_len {l l' v : List UInt8} (h : bytesP l = .ok v l') : l'.length ≤ l.length := by
  unfold bytesP at h
  split at h
  · exact Nat.le_trans (bytesF_len h) (tail_len l)
  · cases h
theorem short_len {l l' v : List UInt8} (h : shortP l = .ok v l') : l'.length ≤ l.length := by
  unfold shortP at h
  rcases hb : bytesP l with ⟨s, l2⟩ | ⟨a, b⟩
  · rw [hb] at h; simp only at h
    split at h
    · cases h
    · injection h with _ h; rw [← h]; exact bytes_len hb
  · rw [hb] at h; cases h
theorem number_len {l l' : List UInt8} {v : Int} (h : numberP l = .ok v l') : l'.length ≤ l.length := by
  rcases hd : digitsP l with ⟨u, l2⟩ | ⟨a, b⟩
  · have hs := (digits_suf hd).length_le
    rcases atoi_of_digits hd with ⟨n, hn⟩ | hn
    · rw [number_ok hd hn] at h; injection h with _ h; rw [← h]; exact hs
    · rw [number_far hd hn] at h; cases h
  · rw [number_bad hd] at h; cases h
/-- What an item tells that goes on. -/
def Fine {σ : Type} (item : σ → List UInt8 → Nat → Out σ) : Prop := ∀ st l p st' l' p', p ≤ 512 → item st l p = .ok st' l' p' → p < p' ∧ p' ≤ 512 ∧ l'.length ≤ l.length
theorem rowL_fine {σ : Type} {item : σ → List UInt8 → Nat → Out σ} (hi : Fine item) (e : UInt8) : ∀ (f : Nat) (st : σ) (l : List UInt8) (p : Nat) (st' : σ) (l' : List UInt8) (p' : Nat), p ≤ 512 → rowL item e f st l p = .ok st' l' p' → p ≤ p' ∧ p' ≤ 512 ∧ l'.length ≤ l.length
  | 0, st, l, p, st', l', p', _, h => by cases h
  | f + 1, st, l, p, st', l', p', hp, h => by
    rcases hit : item st l p with ⟨s2, l2, p2⟩ | ⟨a, b⟩
    · obtain ⟨h1, h2, h3⟩ := hi _ _ _ _ _ _ hp hit
      have h4 := skip_len l2
      have h5 := tail_len (skipL l2)
      by_cases he : pk (skipL l2) = e
      · rw [rowL_end hit he] at h; injection h with _ ha hb; subst ha; subst hb; exact ⟨by omega, h2, by omega⟩
      · by_cases hc : pk (skipL l2) = 44
        · rw [rowL_go hit he hc] at h
          obtain ⟨g1, g2, g3⟩ := rowL_fine hi e f _ _ _ _ _ _ h2 h
          exact ⟨by omega, g2, by omega⟩
        · rw [rowL_no hit he hc] at h; cases h
    · rw [rowL_bad hit] at h; cases h
theorem rowP_fine {σ : Type} {item : σ → List UInt8 → Nat → Out σ} (hi : Fine item) {e : UInt8} {st st' : σ} {l l' : List UInt8} {p p' : Nat} (hp : p ≤ 512) (h : rowP item e st l p = .ok st' l' p') : p ≤ p' ∧ p' ≤ 512 ∧ l'.length ≤ l.length := by
  unfold rowP at h
  have h1 := tail_len l
  have h2 := skip_len l.tail
  have h3 := tail_len (skipL l.tail)
  split at h
  · injection h with _ ha hb; subst ha; subst hb; exact ⟨Nat.le_refl _, hp, by omega⟩
  · obtain ⟨g1, g2, g3⟩ := rowL_fine hi e _ _ _ _ _ _ _ hp h
    exact ⟨g1, g2, by omega⟩
def FineD (doc : List UInt8 → Nat → Out D) : Prop := ∀ l p d l' p', p ≤ 512 → doc l p = .ok d l' p' → p < p' ∧ p' ≤ 512 ∧ l'.length ≤ l.length
theorem listI_fine {doc : List UInt8 → Nat → Out D} (hd : FineD doc) : Fine (listI doc) := fun st l p st' l' p' hp h => by
  unfold listI at h
  rcases hx : doc l p with ⟨d, l2, p2⟩ | ⟨a, b⟩
  · rw [hx] at h; injection h with _ ha hb; subst ha; subst hb; exact hd _ _ _ _ _ hp hx
  · rw [hx] at h; cases h
theorem keyI_fine {doc : List UInt8 → Nat → Out D} (hd : FineD doc) {key : List UInt8 → Tk (List UInt8)} (hk : ∀ l v l', key l = .ok v l' → l'.length ≤ l.length) (sign : UInt8) : Fine (keyI doc key sign) := fun st l p st' l' p' hp h => by
  rcases hx : key (skipL l) with ⟨k, l1⟩ | ⟨a, b⟩
  · cases hh : hasB st.1 ⟨k.toArray⟩
    · by_cases hs : pk (skipL l1) = sign
      · rcases hy : doc (skipL l1).tail p with ⟨d, l2, p2⟩ | ⟨a, b⟩
        · rw [keyI_ok hx hh hs hy] at h
          injection h with _ ha hb; subst ha; subst hb
          obtain ⟨g1, g2, g3⟩ := hd _ _ _ _ _ hp hy
          have h1 := hk _ _ _ hx
          have h2 := skip_len l
          have h3 := skip_len l1
          have h4 := tail_len (skipL l1)
          exact ⟨g1, g2, by omega⟩
        · rw [keyI_doc hx hh hs hy] at h; cases h
      · rw [keyI_sign hx hh hs] at h; cases h
    · rw [keyI_has hx hh] at h; cases h
  · rw [keyI_key hx] at h; cases h
theorem part_fine {doc : List UInt8 → Nat → Out D} (hd : FineD doc) {l l' : List UInt8} {p p' : Nat} {d : D} (hp : p ≤ 512) (h : partP doc l p = .ok d l' p') : p ≤ p' ∧ p' ≤ 512 ∧ l'.length ≤ l.length := by
  unfold partP at h
  split at h
  · unfold keyedP at h
    rcases hx : rowP (keyI doc nameP 61) 125 ([], []) l p with ⟨st, l2, p2⟩ | ⟨a, b⟩
    · rw [hx] at h; injection h with _ ha hb; subst ha; subst hb
      exact rowP_fine (keyI_fine hd (fun _ _ _ => name_len) 61) hp hx
    · rw [hx] at h; cases h
  · split at h
    · unfold keyedP at h
      rcases hx : rowP (keyI doc shortP 58) 62 ([], []) l p with ⟨st, l2, p2⟩ | ⟨a, b⟩
      · rw [hx] at h; injection h with _ ha hb; subst ha; subst hb
        exact rowP_fine (keyI_fine hd (fun _ _ _ => short_len) 58) hp hx
      · rw [hx] at h; cases h
    · split at h
      · unfold listP at h
        rcases hx : rowP (listI doc) 93 [] l p with ⟨st, l2, p2⟩ | ⟨a, b⟩
        · rw [hx] at h; injection h with _ ha hb; subst ha; subst hb
          exact rowP_fine (listI_fine hd) hp hx
        · rw [hx] at h; cases h
      · split at h
        · rcases hx : wordP [116, 114, 117, 101] l with ⟨u, l2⟩ | ⟨a, b⟩
          · rw [hx] at h; injection h with _ ha hb; subst ha; subst hb; exact ⟨Nat.le_refl _, hp, word_len hx⟩
          · rw [hx] at h; cases h
        · split at h
          · rcases hx : wordP [102, 97, 108, 115, 101] l with ⟨u, l2⟩ | ⟨a, b⟩
            · rw [hx] at h; injection h with _ ha hb; subst ha; subst hb; exact ⟨Nat.le_refl _, hp, word_len hx⟩
            · rw [hx] at h; cases h
          · split at h
            · rcases hx : shortP l with ⟨u, l2⟩ | ⟨a, b⟩
              · rw [hx] at h; injection h with _ ha hb; subst ha; subst hb; exact ⟨Nat.le_refl _, hp, short_len hx⟩
              · rw [hx] at h; cases h
            · rcases hx : numberP l with ⟨u, l2⟩ | ⟨a, b⟩
              · rw [hx] at h; injection h with _ ha hb; subst ha; subst hb; exact ⟨Nat.le_refl _, hp, number_len hx⟩
              · rw [hx] at h; cases h
theorem docP_fine : ∀ n, FineD (docP n)
  | 0 => fun l p d l' p' _ h => by unfold docP at h; split at h <;> cases h
  | n + 1 => fun l p d l' p' hp h => by
    unfold docP at h
    split at h
    · cases h
    · split at h
      · cases h
      · obtain ⟨g1, g2, g3⟩ := part_fine (docP_fine n) (by omega) h
        have := skip_len l
        exact ⟨by omega, g2, by omega⟩
end Go.Proofs.YtgklnafliaplkaaGreatDoor
namespace Go.Proofs.YtgklnafliaplkaaGreatDoor

theorem name_err {l a : List UInt8} {e : Nat} (h : nameP l = .bad a e) : e ≠ 0 := by
  unfold nameP at h
  split at h
  · split at h
    · injection h with _ h; omega
    · cases h
  · injection h with _ h; omega
theorem word_err : ∀ {z l a : List UInt8} {e : Nat}, wordP z l = .bad a e → e ≠ 0
  | [], l, a, e, h => by cases h
  | c :: t, l, a, e, h => by
    rw [wordP_cons] at h
    split at h
    · exact word_err h
    · injection h with _ h; omega
theorem digits_err {l a : List UInt8} {e : Nat} (h : digitsP l = .bad a e) : e ≠ 0 := by
  rw [digitsP_eq] at h
  have hm : ∀ {l a : List UInt8} {e : Nat}, moreP l = .bad a e → e ≠ 0 := fun {l a e} h => by
    unfold moreP at h
    split at h
    · injection h with _ h; omega
    · cases h
  split at h
  · cases h
  · split at h
    · exact hm h
    · exact hm h
theorem number_err {l a : List UInt8} {e : Nat} (h : numberP l = .bad a e) : e ≠ 0 := by
  rcases hd : digitsP l with ⟨u, l2⟩ | ⟨b, c⟩
  · rcases atoi_of_digits hd with ⟨n, hn⟩ | hn
    · rw [number_ok hd hn] at h; cases h
    · rw [number_far hd hn] at h; injection h with _ h; omega
  · rw [number_bad hd] at h; injection h with _ h; rw [← h]; exact digits_err hd
theorem hexP_err {l a : List UInt8} {e : Nat} (h : hexP l = .bad a e) : e ≠ 0 := by
  unfold hexP at h
  split at h
  · cases h
  · injection h with _ h; omega
theorem inner_err {l a : List UInt8} {e : Nat} (h : innerP l = .bad a e) : e ≠ 0 := by
  unfold innerP at h
  split at h
  · injection h with _ h; omega
  · split at h
    · cases h
    · split at h
      · cases h
      · split at h
        · injection h with _ h; omega
        · unfold hex2P at h
          rcases hx : hexP l.tail.tail with ⟨u, l2⟩ | ⟨b, c⟩
          · rw [hx] at h; simp only at h
            rcases hy : hexP l2 with ⟨v, l3⟩ | ⟨b, c⟩
            · rw [hy] at h; cases h
            · rw [hy] at h; injection h with _ h; rw [← h]; exact hexP_err hy
          · rw [hx] at h; injection h with _ h; rw [← h]; exact hexP_err hx
theorem bytesF_err : ∀ {f : Nat} {l acc a : List UInt8} {e : Nat}, bytesF f l acc = .bad a e → e ≠ 0
  | 0, l, acc, a, e, h => by injection h with _ h; omega
  | f + 1, l, acc, a, e, h => by
    by_cases h1 : pk l = 34
    · rw [bytesF_end h1] at h; cases h
    · rcases hi : innerP l with ⟨c, l2⟩ | ⟨b, c⟩
      · rw [bytesF_go h1 hi] at h; exact bytesF_err h
      · rw [bytesF_bad h1 hi] at h; injection h with _ h; rw [← h]; exact inner_err hi
theorem bytes_err {l a : List UInt8} {e : Nat} (h : bytesP l = .bad a e) : e ≠ 0 := by
  unfold bytesP at h
  split at h
  · exact bytesF_err h
  · injection h with _ h; omega
theorem short_err {l a : List UInt8} {e : Nat} (h : shortP l = .bad a e) : e ≠ 0 := by
  unfold shortP at h
  rcases hb : bytesP l with ⟨s, l2⟩ | ⟨b, c⟩
  · rw [hb] at h; simp only at h
    split at h
    · injection h with _ h; omega
    · cases h
  · rw [hb] at h; injection h with _ h; rw [← h]; exact bytes_err hb
def ErrI {σ : Type} (item : σ → List UInt8 → Nat → Out σ) : Prop := ∀ st l p a e, item st l p = .bad a e → e ≠ 0
theorem rowL_err {σ : Type} {item : σ → List UInt8 → Nat → Out σ} (hi : ErrI item) (e : UInt8) : ∀ (f : Nat) (st : σ) (l : List UInt8) (p : Nat) (a : List UInt8) (er : Nat), rowL item e f st l p = .bad a er → er ≠ 0
  | 0, st, l, p, a, er, h => by injection h with _ h; omega
  | f + 1, st, l, p, a, er, h => by
    rcases hit : item st l p with ⟨s2, l2, p2⟩ | ⟨b, c⟩
    · by_cases he : pk (skipL l2) = e
      · rw [rowL_end hit he] at h; cases h
      · by_cases hc : pk (skipL l2) = 44
        · rw [rowL_go hit he hc] at h; exact rowL_err hi e f _ _ _ _ _ h
        · rw [rowL_no hit he hc] at h; injection h with _ h; omega
    · rw [rowL_bad hit] at h; injection h with _ h; rw [← h]; exact hi _ _ _ _ _ hit
theorem rowP_err {σ : Type} {item : σ → List UInt8 → Nat → Out σ} (hi : ErrI item) {e : UInt8} {st : σ} {l a : List UInt8} {p er : Nat} (h : rowP item e st l p = .bad a er) : er ≠ 0 := by
  unfold rowP at h
  split at h
  · cases h
  · exact rowL_err hi e _ _ _ _ _ _ h
def ErrD (doc : List UInt8 → Nat → Out D) : Prop := ∀ l p a e, doc l p = .bad a e → e ≠ 0
theorem listI_err {doc : List UInt8 → Nat → Out D} (hd : ErrD doc) : ErrI (listI doc) := fun st l p a e h => by
  unfold listI at h
  rcases hx : doc l p with ⟨d, l2, p2⟩ | ⟨b, c⟩
  · rw [hx] at h; cases h
  · rw [hx] at h; injection h with _ h; rw [← h]; exact hd _ _ _ _ hx
theorem keyI_err {doc : List UInt8 → Nat → Out D} (hd : ErrD doc) {key : List UInt8 → Tk (List UInt8)} (hk : ∀ l a e, key l = .bad a e → e ≠ 0) (sign : UInt8) : ErrI (keyI doc key sign) := fun st l p a e h => by
  rcases hx : key (skipL l) with ⟨k, l1⟩ | ⟨b, c⟩
  · cases hh : hasB st.1 ⟨k.toArray⟩
    · by_cases hs : pk (skipL l1) = sign
      · rcases hy : doc (skipL l1).tail p with ⟨d, l2, p2⟩ | ⟨b, c⟩
        · rw [keyI_ok hx hh hs hy] at h; cases h
        · rw [keyI_doc hx hh hs hy] at h; injection h with _ h; rw [← h]; exact hd _ _ _ _ hy
      · rw [keyI_sign hx hh hs] at h; injection h with _ h; omega
    · rw [keyI_has hx hh] at h; injection h with _ h; omega
  · rw [keyI_key hx] at h; injection h with _ h; rw [← h]; exact hk _ _ _ hx
theorem part_err {doc : List UInt8 → Nat → Out D} (hd : ErrD doc) {l a : List UInt8} {p e : Nat} (h : partP doc l p = .bad a e) : e ≠ 0 := by
  unfold partP at h
  split at h
  · unfold keyedP at h
    rcases hx : rowP (keyI doc nameP 61) 125 ([], []) l p with ⟨st, l2, p2⟩ | ⟨b, c⟩
    · rw [hx] at h; cases h
    · rw [hx] at h; injection h with _ h; rw [← h]; exact rowP_err (keyI_err hd (fun _ _ _ => name_err) 61) hx
  · split at h
    · unfold keyedP at h
      rcases hx : rowP (keyI doc shortP 58) 62 ([], []) l p with ⟨st, l2, p2⟩ | ⟨b, c⟩
      · rw [hx] at h; cases h
      · rw [hx] at h; injection h with _ h; rw [← h]; exact rowP_err (keyI_err hd (fun _ _ _ => short_err) 58) hx
    · split at h
      · unfold listP at h
        rcases hx : rowP (listI doc) 93 [] l p with ⟨st, l2, p2⟩ | ⟨b, c⟩
        · rw [hx] at h; cases h
        · rw [hx] at h; injection h with _ h; rw [← h]; exact rowP_err (listI_err hd) hx
      · split at h
        · rcases hx : wordP [116, 114, 117, 101] l with ⟨u, l2⟩ | ⟨b, c⟩
          · rw [hx] at h; cases h
          · rw [hx] at h; injection h with _ h; rw [← h]; exact word_err hx
        · split at h
          · rcases hx : wordP [102, 97, 108, 115, 101] l with ⟨u, l2⟩ | ⟨b, c⟩
            · rw [hx] at h; cases h
            · rw [hx] at h; injection h with _ h; rw [← h]; exact word_err hx
          · split at h
            · rcases hx : shortP l with ⟨u, l2⟩ | ⟨b, c⟩
              · rw [hx] at h; cases h
              · rw [hx] at h; injection h with _ h; rw [← h]; exact short_err hx
            · rcases hx : numberP l with ⟨u, l2⟩ | ⟨b, c⟩
              · rw [hx] at h; cases h
              · rw [hx] at h; injection h with _ h; rw [← h]; exact number_err hx
theorem docP_err : ∀ n, ErrD (docP n)
  | 0 => fun l p a e h => by unfold docP at h; split at h <;> (injection h with _ h; omega)
  | n + 1 => fun l p a e h => by
    unfold docP at h
    split at h
    · injection h with _ h; omega
    · split at h
      · injection h with _ h; omega
      · exact part_err (docP_err n) h
end Go.Proofs.YtgklnafliaplkaaGreatDoor
namespace Go.Proofs.YtgklnafliaplkaaGreatDoor
open Go.RowKit

theorem tx_tab_named : Tryz.prog.globalNamed "internal/strconv.uint64pow10" = some 3 := by kernel_rfl
theorem tx_tab_same {w w' : World} (h : Lib.TabIs Tryz.prog w "internal/strconv.uint64pow10" .u64 Lib.pow10Tab) (hs : w'.heap[3]? = w.heap[3]?) : Lib.TabIs Tryz.prog w' "internal/strconv.uint64pow10" .u64 Lib.pow10Tab := by
  have e : w'.var? Tryz.prog "internal/strconv.uint64pow10" = w.var? Tryz.prog "internal/strconv.uint64pow10" := by simp [World.var?, tx_tab_named, hs]
  unfold Lib.TabIs at *
  rw [e]; exact h
/-- What the package variables must be. -/
structure TG (w : World) : Prop where
  eg : ∃ ev, w.cell? ⟨1, 0, none⟩ = some ev ∧ (ev = .nilIface ∨ ∃ te pe, ev = .iface te pe)
  gr : 1 < w.heap.size
  tab : Lib.TabIs Tryz.prog w "internal/strconv.uint64pow10" .u64 Lib.pow10Tab
  tl : 3 < w.heap.size
theorem TG.next {w w' : World} (h : TG w) (hb : Below w.heap.size w w') : TG w' := by
  obtain ⟨ev, h1, h2⟩ := h.eg
  exact ⟨⟨ev, (hb.cell (p := ⟨1, 0, none⟩) h.gr).trans h1, h2⟩, Nat.lt_of_lt_of_le h.gr hb.size, tx_tab_same h.tab (hb.block _ h.tl), Nat.lt_of_lt_of_le h.tl hb.size⟩
/-- The reader at its start. -/
theorem RdL.begin {w : World} {r : Nat} {s : ByteArray} (h : Rdr w r s 0 0) (hg : ∃ ev, w.cell? ⟨1, 0, none⟩ = some ev ∧ (ev = .nilIface ∨ ∃ te pe, ev = .iface te pe)) (hr : 1 < r) : RdL w r s s.data.toList 0 := by
  refine ⟨?_, List.suffix_refl _, hg, hr⟩
  have h1 : s.size - s.data.toList.length = 0 := by simp
  rw [h1]; exact h
/-- What the closure tells: PB of the value and the world, with the variable b. -/
def BoxTo {α : Type} (w : World) (r : Nat) (s : ByteArray) (b : Nat) (PB : α → World → Prop) (t : Tk α) (e : Ending) (w' : World) : Prop := match t with
  | .ok v l => e = .returned (.tuple #[]) ∧ (∃ p, RdL w' r s l p) ∧ PB v w' ∧ Turned w w' [b] r
  | .bad l er => Failed ((s.size - l.length : Nat) : Int) er e ∧ Turned w w' [] r
/-- What read tells then. -/
def ReadTo {α : Type} (w : World) (s : ByteArray) (b : Nat) (PB : α → World → Prop) (t : Tk α) (e : Ending) (w' : World) : Prop := Turned w w' [] b ∧ match t with
  | .ok v l => if l = [] then e = .returned (.tuple #[.int .i64 s.size, .int .i64 0]) ∧ PB v w' else e = .returned (.tuple #[.int .i64 ((s.size - l.length : Nat) : Int), .int .i64 4])
  | .bad l er => e = .returned (.tuple #[.int .i64 ((s.size - l.length : Nat) : Int), .int .i64 (er : Int)])
theorem turned_read {w w1 w2 w' : World} {b r : Nat} (hb1 : Below w.heap.size w w1) (h : Turned w1 w2 [b] r) (hr : w.heap.size ≤ r) (h2 : Below w.heap.size w2 w') : Turned w w' [] b := by
  have z1 := hb1.size
  refine ⟨h2.os.trans (h.os.trans hb1.os), h2.tape.trans (h.tape.trans hb1.tape), h2.output.trans (h.output.trans hb1.output), Nat.le_trans z1 (Nat.le_trans h.size h2.size), fun k hk _ hk2 => ?_⟩
  exact (h2.block k hk).trans ((h.block k (by omega) (by simpa using hk2) (by omega)).trans (hb1.block k hk))
theorem turned_more {w w' : World} {b r : Nat} (h : Turned w w' [] r) : Turned w w' [b] r := ⟨h.os, h.tape, h.output, h.size, fun k hk _ h2 => h.block k hk (by simp) h2⟩
theorem read_box {α : Type} {PB : α → World → Prop} {t : Tk α} {g b : Nat} {s : ByteArray} {w : World} (hbw : b < w.heap.size)
    (eg : ∀ args w, (callFunc g args).run Tryz.prog w = .ok (.enter g args) w)
    (hPB : ∀ v w1 w2, PB v w1 → (∀ k, k ≠ w.heap.size → k ≠ w.heap.size + 1 → w2.heap[k]? = w1.heap[k]?) → PB v w2)
    (hcl : ∀ w1, Below w.heap.size w w1 → Rdr w1 (w.heap.size + 1 + 1) s 0 0 → Calls Tryz.prog g #[.pointer (some ⟨w.heap.size + 1 + 1, 0, none⟩), .pointer (some ⟨b, 0, none⟩)] w1 (BoxTo w1 (w.heap.size + 1 + 1) s b PB t)) :
    Calls Tryz.prog 22 #[.string s, .func (.func g) #[] #[.pointer (some ⟨b, 0, none⟩)]] w (ReadTo w s b PB t) := by
  cases t with
  | bad l er =>
    refine Calls.mono (read_bad (at_ := s.size - l.length) (err := er) (T := fun w2 => ∃ w1, Below w.heap.size w w1 ∧ Turned w1 w2 [b] (w.heap.size + 1 + 1)) eg fun w1 hb1 hR => ?_) ?_
    · refine Calls.mono (hcl w1 hb1 hR) ?_
      rintro e w2 ⟨hf, ht⟩
      have hlt : w.heap.size + 1 + 1 < w1.heap.size := by
        rcases Nat.lt_or_ge (w.heap.size + 1 + 1) w1.heap.size with h1 | h1
        · exact h1
        · unfold Rdr at hR; simp [Array.getElem?_eq_none h1] at hR
      exact ⟨hf, ⟨w1, hb1, turned_more ht⟩, fun k h1 h2 => ht.block k (by omega) (by simp) (by omega), ht.size⟩
    · rintro e w' ⟨rfl, w2, ⟨w1, hb1, ht⟩, hb2⟩
      exact ⟨turned_read hb1 ht (by omega) hb2, rfl⟩
  | ok v l =>
    by_cases hl : l = []
    · subst hl
      refine Calls.mono (read_ok (T := fun w2 => PB v w2 ∧ ∃ w1, Below w.heap.size w w1 ∧ Turned w1 w2 [b] (w.heap.size + 1 + 1)) eg fun w1 hb1 hR => ?_) ?_
      · refine Calls.mono (hcl w1 hb1 hR) ?_
        rintro e w2 ⟨rfl, ⟨p, hr⟩, hpb, ht⟩
        have hlt : w.heap.size + 1 + 1 < w1.heap.size := by
          rcases Nat.lt_or_ge (w.heap.size + 1 + 1) w1.heap.size with h1 | h1
          · exact h1
          · unfold Rdr at hR; simp [Array.getElem?_eq_none h1] at hR
        refine ⟨rfl, ⟨hpb, w1, hb1, ht⟩, ⟨p, ?_⟩, fun k h1 h2 => ht.block k (by omega) (by simp; omega) (by omega), ht.size⟩
        have h3 := hr.rd
        simpa using h3
      · rintro e w' ⟨rfl, w2, ⟨hpb, w1, hb1, ht⟩, hb2, hfar⟩
        refine ⟨turned_read hb1 ht (by omega) hb2, ?_⟩
        simp only [if_true]
        exact ⟨trivial, hPB _ _ _ hpb hfar⟩
    · by_cases hlen : l.length ≤ s.size
      · have hpos : 0 < l.length := List.length_pos_iff.2 hl
        refine Calls.mono (read_more (k := s.size - l.length) (T := fun w2 => ∃ w1, Below w.heap.size w w1 ∧ Turned w1 w2 [b] (w.heap.size + 1 + 1)) eg (by omega) fun w1 hb1 hR => ?_) ?_
        · refine Calls.mono (hcl w1 hb1 hR) ?_
          rintro e w2 ⟨rfl, ⟨p, hr⟩, hpb, ht⟩
          have hlt : w.heap.size + 1 + 1 < w1.heap.size := by
            rcases Nat.lt_or_ge (w.heap.size + 1 + 1) w1.heap.size with h1 | h1
            · exact h1
            · unfold Rdr at hR; simp [Array.getElem?_eq_none h1] at hR
          exact ⟨rfl, ⟨w1, hb1, ht⟩, ⟨p, hr.rd⟩, fun k h1 h2 => ht.block k (by omega) (by simp; omega) (by omega), ht.size⟩
        · rintro e w' ⟨rfl, w2, ⟨w1, hb1, ht⟩, hb2⟩
          exact ⟨turned_read hb1 ht (by omega) hb2, by simp only [if_neg hl]⟩
      · refine Calls.mono (read_ok (T := fun _ => False) eg fun w1 hb1 hR => ?_) ?_
        · refine Calls.mono (hcl w1 hb1 hR) ?_
          rintro e w2 ⟨_, ⟨p, hr⟩, _⟩
          exact absurd hr.len hlen
        · rintro e w' ⟨_, w2, hT, _⟩
          exact hT.elim
end Go.Proofs.YtgklnafliaplkaaGreatDoor
namespace Go.Proofs.YtgklnafliaplkaaGreatDoor
open Go.RowKit

theorem StTo.imp {σ : Type} {St St' : σ → Nat → World → Prop} {K : World → Prop} {r : Nat} {s : ByteArray} {t : Out σ} {e : Ending} {w' : World} (h : StTo St K r s t e w') (f : ∀ st l p, t = .ok st l p → St st p w' → St' st p w') : StTo St' K r s t e w' := by
  cases t with
  | ok st l p => exact ⟨h.1, f st l p rfl h.2.1, h.2.2⟩
  | bad l er => exact h
theorem keyI_parts {doc : List UInt8 → Nat → Out D} {key : List UInt8 → Tk (List UInt8)} {sign : UInt8} {ks : List ByteArray} {ds : List D} {l l' : List UInt8} {p p' : Nat} {st' : List ByteArray × List D} (h : keyI doc key sign (ks, ds) l p = .ok st' l' p') :
    ∃ K d, hasB ks K = false ∧ st' = (insK ks (placeOf ks K) K, insK ds (placeOf ks K) d) := by
  rcases hx : key (skipL l) with ⟨k, l1⟩ | ⟨a, b⟩
  · cases hh : hasB (ks, ds).1 ⟨k.toArray⟩
    · by_cases hs : pk (skipL l1) = sign
      · rcases hy : doc (skipL l1).tail p with ⟨d, l2, p2⟩ | ⟨a, b⟩
        · rw [keyI_ok hx hh hs hy] at h
          injection h with ha _ _
          exact ⟨⟨k.toArray⟩, d, hh, ha.symm⟩
        · rw [keyI_doc hx hh hs hy] at h; cases h
      · rw [keyI_sign hx hh hs] at h; cases h
    · rw [keyI_has hx hh] at h; cases h
  · rw [keyI_key hx] at h; cases h
theorem keyedP_ok {doc : List UInt8 → Nat → Out D} {key : List UInt8 → Tk (List UInt8)} {kind : Int} {e sign : UInt8} {l l' : List UInt8} {p p' : Nat} {st : List ByteArray × List D} (h : rowP (keyI doc key sign) e ([], []) l p = .ok st l' p') : keyedP doc key kind e sign l p = .ok (.mk kind 0 ⟨#[]⟩ st.1 st.2) l' p' := by simp only [keyedP, h]
theorem keyedP_bad {doc : List UInt8 → Nat → Out D} {key : List UInt8 → Tk (List UInt8)} {kind : Int} {e sign : UInt8} {l a : List UInt8} {p b : Nat} (h : rowP (keyI doc key sign) e ([], []) l p = .bad a b) : keyedP doc key kind e sign l p = .bad a b := by simp only [keyedP, h]
set_option maxHeartbeats 8000000 in
set_option maxRecDepth 100000 in
theorem keyed_l {r n kf : Nat} {s : ByteArray} {key : List UInt8 → Tk (List UInt8)} {sign e : UInt8} (hsg : sign ≠ 0) (he : e ≠ 0) (kd : Int) (HD : DReads r s n) (hn : n ≤ 11) (hs : s.size ≤ 1000000)
    (ek : ∀ args w, (callFunc kf args).run Tryz.prog w = .ok (.enter kf args) w) (e1 : ∀ args w, (callFunc 78 args).run Tryz.prog w = .ok (.enter 78 args) w)
    (HKY : ∀ l p w, RdL w r s l p → Calls Tryz.prog kf #[.pointer (some ⟨r, 0, none⟩)] w fun e w' => TkTo w r s p (key l) (fun v => .string ⟨v.toArray⟩) e w') (hkl : ∀ l v l', key l = .ok v l' → l'.length ≤ l.length)
    {w : World} {l : List UInt8} {p : Nat} (h : RdL w r s l p) (hne : l ≠ []) (hp2 : p ≤ 512) :
    Calls Tryz.prog 59 #[.pointer (some ⟨r, 0, none⟩), .int .i64 kd, .int .u8 e.toNat, .int .u8 sign.toNat, .int .i64 (12 - (n : Int)), .func (.func kf) #[.pointer (some ⟨r, 0, none⟩)] #[]] w fun en w' => DocTo w r s (keyedP (docP n) key kd e sign l p) en w' := by
  have hmf : ∀ (fn : Fn) (first cap : Array Value) (w : World), (Instr.makeFunc fn first cap).run Tryz.prog w = .ok (.func fn first cap) w := fun _ _ _ _ => rfl
  have HR := Lib.hid h; have HNE := Lib.hid hne; have HDD := Lib.hid HD; have HKK := Lib.hid HKY; have HSG := Lib.hid hsg; have HE := Lib.hid he; have HKL := Lib.hid hkl; have HEK := Lib.hid ek
  have hrb := h.block
  clear h hne HD HKY hsg he hkl ek
  obtain ⟨dp, hdp⟩ : ∃ dp : Int, dp = 12 - (n : Int) := ⟨_, rfl⟩
  have HDP := Lib.hid hdp
  rw [← hdp]
  clear hdp
  go_enter Tryz.func59, Tryz.ntmps59
  go_wp2_with fail
  obtain ⟨b, hbe⟩ : ∃ b, b = w.heap.size := ⟨_, rfl⟩
  obtain ⟨w3, hw3⟩ : ∃ w3, w3 = ((((((w.alloc (.cells #[.pointer (some ⟨r, 0, none⟩)] 47)).alloc (.cells #[.int .u8 sign.toNat] 5)).alloc (.cells #[.int .i64 dp] 3)).alloc (.cells #[.func (.func kf) #[.pointer (some ⟨r, 0, none⟩)] #[]] 48)).alloc (.cells #[.int .i64 0, .int .i64 0, .string ⟨#[]⟩, .slice none 0 0, .slice none 0 0] 25)).alloc (.cells #[.int .i64 kd, .int .i64 0, .string ⟨#[]⟩, .slice none 0 0, .slice none 0 0] 25)) := ⟨_, rfl⟩
  have hz3 : w3.heap.size = b + 6 := by rw [hw3, hbe]; simp
  have hbw : Below w.heap.size w w3 := by
    rw [hw3]
    exact ((((((Below.refl _ _).alloc (Nat.le_refl _) _).alloc (by simp) _).alloc (by simp; omega) _).alloc (by simp; omega) _).alloc (by simp; omega) _).alloc (by simp; omega) _
  have k0 : w3.heap[b]? = some (.cells #[.pointer (some ⟨r, 0, none⟩)] 47 (0, 0)) := by
    rw [hw3]
    rw [Below.heap_alloc _ _ _ (by simp; omega), Below.heap_alloc _ _ _ (by simp; omega), Below.heap_alloc _ _ _ (by simp; omega), Below.heap_alloc _ _ _ (by simp; omega), Below.heap_alloc _ _ _ (by simp; omega)]
    exact heap_alloc_new' hbe.symm _
  have k1 : w3.heap[b + 1]? = some (.cells #[.int .u8 sign.toNat] 5 (0, 0)) := by
    rw [hw3]
    rw [Below.heap_alloc _ _ _ (by simp; omega), Below.heap_alloc _ _ _ (by simp; omega), Below.heap_alloc _ _ _ (by simp; omega), Below.heap_alloc _ _ _ (by simp; omega)]
    exact heap_alloc_new' (by simp; omega) _
  have k2 : w3.heap[b + 2]? = some (.cells #[.int .i64 dp] 3 (0, 0)) := by
    rw [hw3]
    rw [Below.heap_alloc _ _ _ (by simp; omega), Below.heap_alloc _ _ _ (by simp; omega), Below.heap_alloc _ _ _ (by simp; omega)]
    exact heap_alloc_new' (by simp; omega) _
  have k3 : w3.heap[b + 3]? = some (.cells #[.func (.func kf) #[.pointer (some ⟨r, 0, none⟩)] #[]] 48 (0, 0)) := by
    rw [hw3]
    rw [Below.heap_alloc _ _ _ (by simp; omega), Below.heap_alloc _ _ _ (by simp; omega)]
    exact heap_alloc_new' (by simp; omega) _
  have k4 : Box5 w3 (b + 4) (.int .i64 0) (.int .i64 0) (.string ⟨#[]⟩) (.slice none 0 0) (.slice none 0 0) := by
    unfold Box5
    rw [hw3]
    rw [Below.heap_alloc _ _ _ (by simp; omega)]
    exact heap_alloc_new' (by simp; omega) _
  have k5 : Box5 w3 (b + 5) (.int .i64 kd) (.int .i64 0) (.string ⟨#[]⟩) (.slice none 0 0) (.slice none 0 0) := by
    unfold Box5
    rw [hw3]
    exact heap_alloc_new' (by simp; omega) _
  have hR3 : RdL w3 r s l p := HR.out.past hbw
  rw [← hw3]
  have hp0 : PDoc w3 w3 (b + 5) r kd 0 ⟨#[]⟩ [] [] (.slice none 0 0) (.slice none 0 0) [] [] :=
    ⟨k5, World.ownsRow_nil _ _ _ _, World.ownsRow_nil _ _ _ _, by simp [OwnKids], by simp [blk, Value.ownBlock], Turned.of_below (Below.refl _ _) _ _⟩
  have hri0 : Rising [] := fun i hi => by simp at hi
  have hcell : ∀ X, Turned w3 X [r] (b + 5) → X.cell? ⟨b, 0, none⟩ = some (.pointer (some ⟨r, 0, none⟩)) ∧ X.cell? ⟨b + 1, 0, none⟩ = some (.int .u8 sign.toNat) ∧ X.cell? ⟨b + 2, 0, none⟩ = some (.int .i64 (12 - (n : Int))) ∧ X.cell? ⟨b + 3, 0, none⟩ = some (.func (.func kf) #[.pointer (some ⟨r, 0, none⟩)] #[]) := fun X hX => by
    have hh : ∀ k, b ≤ k → k < b + 5 → X.heap[k]? = w3.heap[k]? := fun k h1 h2 => hX.block k (by omega) (by simp; omega) (by omega)
    refine ⟨rdr_cell ((hh b (by omega) (by omega)).trans k0), rdr_cell ((hh (b + 1) (by omega) (by omega)).trans k1), ?_, rdr_cell ((hh (b + 3) (by omega) (by omega)).trans k3)⟩
    rw [← HDP.out]; exact rdr_cell ((hh (b + 2) (by omega) (by omega)).trans k2)
  have hrow := row_any (σ := List ByteArray × List D)
    (St := fun st q W => (∃ v3 v4 cs F, PDoc w3 W (b + 5) r kd 0 ⟨#[]⟩ st.1 st.2 v3 v4 cs F) ∧ st.1.length = st.2.length ∧ Rising st.1 ∧ st.2.length ≤ q ∧ q ≤ 512)
    (K := fun W => Turned w3 W [r] (b + 5)) (item := keyI (docP n) key sign) (caps := #[.pointer (some ⟨b, 0, none⟩), .pointer (some ⟨b + 3, 0, none⟩), .pointer (some ⟨b + 5, 0, none⟩), .pointer (some ⟨b + 1, 0, none⟩), .pointer (some ⟨b + 2, 0, none⟩)]) e HE.out e1
    (fun st l2 p2 W hst hr2 => by
      obtain ⟨ks, ds⟩ := st
      obtain ⟨⟨v3, v4, cs, F, hp⟩, hl, hri, hq, hq2⟩ := hst
      simp only at hp hl hri hq
      obtain ⟨q1, q2, q3, q4⟩ := hcell W hp.t
      refine Calls.mono (keyed1_any (db := b + 5) (rb := b) (fb := b + 3) (sb := b + 1) (pb := b + 2) HSG.out HDD.out hn hs HEK.out HKK.out hp hr2 hl hri hq hq2 (by omega) (by omega) (by omega) q1 q4 q2 q3 (by omega) (by omega) (by omega) (by omega) (by omega) (by omega) (by omega) (by omega)) ?_
      intro en w' hto
      refine hto.imp fun st' l' p' ht hst' => ?_
      obtain ⟨K, d, hk, rfl⟩ := keyI_parts ht
      obtain ⟨g1, g2, _⟩ := keyI_fine (docP_fine n) HKL.out sign _ _ _ _ _ _ hq2 ht
      have hpl := placeOf_le ks K
      exact ⟨hst', by simp only; rw [insK_len _ _ _ hpl, insK_len _ _ _ (by omega), hl], rising_ins hri hk, by simp only; rw [insK_len _ _ _ (by omega)]; omega, g2⟩)
    (fun st l2 p2 W st' l' p' hst ht => (keyI_fine (docP_fine n) HKL.out sign _ _ _ _ _ _ hst.2.2.2.2 ht).2.2)
    (fun st p2 W W' hst hT => by
      obtain ⟨⟨v3, v4, cs, F, hp⟩, h2⟩ := hst
      exact ⟨⟨v3, v4, cs, F, hp.past hT (by omega) (by omega)⟩, h2⟩)
    (fun st p2 W hst => by
      obtain ⟨⟨v3, v4, cs, F, hp⟩, _⟩ := hst
      exact hp.t)
    ([], []) hs HNE.out ⟨⟨_, _, _, _, hp0⟩, rfl, hri0, Nat.zero_le _, hp2⟩ hR3
  rw [← hbe]
  simp only [Nat.add_assoc, Nat.reduceAdd]
  have HBW := Lib.hid hbw
  have HK4 := Lib.hid k4
  have hbr : r < b := by omega
  have hbz := hbe.symm
  have hbl1 : w.heap.size ≤ b := by omega
  have hzl : b + 6 ≤ w3.heap.size := by omega
  refine hrow.mono ?_
  clear hrow k0 k1 k2 k3 k4 k5 hR3 hp0 hcell hw3 hbw hri0 hbz hz3 hbe e1
  intro en w4 hto
  rcases hrp : rowP (keyI (docP n) key sign) e ([], []) l p with ⟨st, l2, p2⟩ | ⟨a, c⟩
  rotate_left
  · rw [hrp] at hto
    obtain ⟨hf, hk⟩ := hto
    unfold Failed at hf
    subst hf
    exact ⟨rfl, DocTo.failed (l := a) (keyedP_bad hrp) rfl (turned_out (res := b + 4) hk (by omega) (by omega) HBW.out (fun _ _ => rfl) rfl ⟨rfl, rfl, rfl⟩)⟩
  rw [hrp] at hto
  obtain ⟨rfl, ⟨⟨v3, v4, cs, F, hp⟩, -⟩, hr4⟩ := hto
  obtain ⟨ks, ds⟩ := st
  simp only at hp
  have HP := Lib.hid hp; have HR4 := Lib.hid hr4; have HRP := Lib.hid hrp
  obtain ⟨A3, c3, rfl⟩ := ownsRow_slice hp.o3
  obtain ⟨A4, c4, rfl⟩ := ownsRow_slice hp.o4
  obtain ⟨d0, d1, d2, d3, d4⟩ := hp.bx.cells
  have hk4 := HK4.out.same (w' := w4) (hp.t.block (b + 4) (by omega) (by simp; omega) (by omega))
  obtain ⟨f0, f1, f2, f3, f4⟩ := hk4.cells
  have ff := hk4.frozen
  have HK4' := Lib.hid hk4
  clear hp hr4 hrp hk4
  go_wp2_with fail
  refine ret_cell5 rfl rfl (((((HK4'.out.set0 _).set1 _).set2 _).set3 _).set4 _).load rfl ?_
  exact pdoc_out (res := b + 4) HP.out (by omega) (by omega) (by omega) HBW.out hrb HR4.out (keyedP_ok HRP.out) (fun k hk => by
    rw [Below.heap_setCell _ _ _ k (by exact hk), Below.heap_setCell _ _ _ k (by exact hk), Below.heap_setCell _ _ _ k (by exact hk), Below.heap_setCell _ _ _ k (by exact hk), Below.heap_setCell _ _ _ k (by exact hk)]) (by simp) ⟨by simp only [so_os], by simp only [so_tape], by simp only [so_out]⟩
end Go.Proofs.YtgklnafliaplkaaGreatDoor
