/-
  The grammar: no fault has the number 0.
-/
import Derived.Test.YtmnaaohhageihaaDoorCParseQ
namespace Go.Proofs.YtmnaaohhageihaaDoor

theorem name_err {l a : List UInt8} {e : Nat} (h : nameP l = .bad a e) : e ≠ 0 := by
  unfold nameP at h
  split at h
  · split at h
    · injection h with _ h; omega
    · cases h
  · injection h with _ h; omega
theorem word_err : ∀ {z l a : List UInt8} {e : Nat}, wordP z l = .bad a e → e ≠ 0
  | [], l, a, e, h => by cases h
  | c :: t, l, a, e, h => by
    rw [wordP_cons] at h
    split at h
    · exact word_err h
    · injection h with _ h; omega
theorem digits_err {l a : List UInt8} {e : Nat} (h : digitsP l = .bad a e) : e ≠ 0 := by
  rw [digitsP_eq] at h
  have hm : ∀ {l a : List UInt8} {e : Nat}, moreP l = .bad a e → e ≠ 0 := fun {l a e} h => by
    unfold moreP at h
    split at h
    · injection h with _ h; omega
    · cases h
  split at h
  · cases h
  · split at h
    · exact hm h
    · exact hm h
theorem number_err {l a : List UInt8} {e : Nat} (h : numberP l = .bad a e) : e ≠ 0 := by
  rcases hd : digitsP l with ⟨u, l2⟩ | ⟨b, c⟩
  · rcases atoi_of_digits hd with ⟨n, hn⟩ | hn
    · rw [number_ok hd hn] at h; cases h
    · rw [number_far hd hn] at h; injection h with _ h; omega
  · rw [number_bad hd] at h; injection h with _ h; rw [← h]; exact digits_err hd
theorem hexP_err {l a : List UInt8} {e : Nat} (h : hexP l = .bad a e) : e ≠ 0 := by
  unfold hexP at h
  split at h
  · cases h
  · injection h with _ h; omega
theorem inner_err {l a : List UInt8} {e : Nat} (h : innerP l = .bad a e) : e ≠ 0 := by
  unfold innerP at h
  split at h
  · injection h with _ h; omega
  · split at h
    · cases h
    · split at h
      · cases h
      · split at h
        · injection h with _ h; omega
        · unfold hex2P at h
          rcases hx : hexP l.tail.tail with ⟨u, l2⟩ | ⟨b, c⟩
          · rw [hx] at h; simp only at h
            rcases hy : hexP l2 with ⟨v, l3⟩ | ⟨b, c⟩
            · rw [hy] at h; cases h
            · rw [hy] at h; injection h with _ h; rw [← h]; exact hexP_err hy
          · rw [hx] at h; injection h with _ h; rw [← h]; exact hexP_err hx
theorem bytesF_err : ∀ {f : Nat} {l acc a : List UInt8} {e : Nat}, bytesF f l acc = .bad a e → e ≠ 0
  | 0, l, acc, a, e, h => by injection h with _ h; omega
  | f + 1, l, acc, a, e, h => by
    by_cases h1 : pk l = 34
    · rw [bytesF_end h1] at h; cases h
    · rcases hi : innerP l with ⟨c, l2⟩ | ⟨b, c⟩
      · rw [bytesF_go h1 hi] at h; exact bytesF_err h
      · rw [bytesF_bad h1 hi] at h; injection h with _ h; rw [← h]; exact inner_err hi
theorem bytes_err {l a : List UInt8} {e : Nat} (h : bytesP l = .bad a e) : e ≠ 0 := by
  unfold bytesP at h
  split at h
  · exact bytesF_err h
  · injection h with _ h; omega
theorem short_err {l a : List UInt8} {e : Nat} (h : shortP l = .bad a e) : e ≠ 0 := by
  unfold shortP at h
  rcases hb : bytesP l with ⟨s, l2⟩ | ⟨b, c⟩
  · rw [hb] at h; simp only at h
    split at h
    · injection h with _ h; omega
    · cases h
  · rw [hb] at h; injection h with _ h; rw [← h]; exact bytes_err hb
def ErrI {σ : Type} (item : σ → List UInt8 → Nat → Out σ) : Prop := ∀ st l p a e, item st l p = .bad a e → e ≠ 0
theorem rowL_err {σ : Type} {item : σ → List UInt8 → Nat → Out σ} (hi : ErrI item) (e : UInt8) : ∀ (f : Nat) (st : σ) (l : List UInt8) (p : Nat) (a : List UInt8) (er : Nat), rowL item e f st l p = .bad a er → er ≠ 0
  | 0, st, l, p, a, er, h => by injection h with _ h; omega
  | f + 1, st, l, p, a, er, h => by
    rcases hit : item st l p with ⟨s2, l2, p2⟩ | ⟨b, c⟩
    · by_cases he : pk (skipL l2) = e
      · rw [rowL_end hit he] at h; cases h
      · by_cases hc : pk (skipL l2) = 44
        · rw [rowL_go hit he hc] at h; exact rowL_err hi e f _ _ _ _ _ h
        · rw [rowL_no hit he hc] at h; injection h with _ h; omega
    · rw [rowL_bad hit] at h; injection h with _ h; rw [← h]; exact hi _ _ _ _ _ hit
theorem rowP_err {σ : Type} {item : σ → List UInt8 → Nat → Out σ} (hi : ErrI item) {e : UInt8} {st : σ} {l a : List UInt8} {p er : Nat} (h : rowP item e st l p = .bad a er) : er ≠ 0 := by
  unfold rowP at h
  split at h
  · cases h
  · exact rowL_err hi e _ _ _ _ _ _ h
def ErrD (doc : List UInt8 → Nat → Out D) : Prop := ∀ l p a e, doc l p = .bad a e → e ≠ 0
theorem listI_err {doc : List UInt8 → Nat → Out D} (hd : ErrD doc) : ErrI (listI doc) := fun st l p a e h => by
  unfold listI at h
  rcases hx : doc l p with ⟨d, l2, p2⟩ | ⟨b, c⟩
  · rw [hx] at h; cases h
  · rw [hx] at h; injection h with _ h; rw [← h]; exact hd _ _ _ _ hx
theorem keyI_err {doc : List UInt8 → Nat → Out D} (hd : ErrD doc) {key : List UInt8 → Tk (List UInt8)} (hk : ∀ l a e, key l = .bad a e → e ≠ 0) (sign : UInt8) : ErrI (keyI doc key sign) := fun st l p a e h => by
  rcases hx : key (skipL l) with ⟨k, l1⟩ | ⟨b, c⟩
  · cases hh : hasB st.1 ⟨k.toArray⟩
    · by_cases hs : pk (skipL l1) = sign
      · rcases hy : doc (skipL l1).tail p with ⟨d, l2, p2⟩ | ⟨b, c⟩
        · rw [keyI_ok hx hh hs hy] at h; cases h
        · rw [keyI_doc hx hh hs hy] at h; injection h with _ h; rw [← h]; exact hd _ _ _ _ hy
      · rw [keyI_sign hx hh hs] at h; injection h with _ h; omega
    · rw [keyI_has hx hh] at h; injection h with _ h; omega
  · rw [keyI_key hx] at h; injection h with _ h; rw [← h]; exact hk _ _ _ hx
theorem part_err {doc : List UInt8 → Nat → Out D} (hd : ErrD doc) {l a : List UInt8} {p e : Nat} (h : partP doc l p = .bad a e) : e ≠ 0 := by
  unfold partP at h
  split at h
  · unfold keyedP at h
    rcases hx : rowP (keyI doc nameP 61) 125 ([], []) l p with ⟨st, l2, p2⟩ | ⟨b, c⟩
    · rw [hx] at h; cases h
    · rw [hx] at h; injection h with _ h; rw [← h]; exact rowP_err (keyI_err hd (fun _ _ _ => name_err) 61) hx
  · split at h
    · unfold keyedP at h
      rcases hx : rowP (keyI doc shortP 58) 62 ([], []) l p with ⟨st, l2, p2⟩ | ⟨b, c⟩
      · rw [hx] at h; cases h
      · rw [hx] at h; injection h with _ h; rw [← h]; exact rowP_err (keyI_err hd (fun _ _ _ => short_err) 58) hx
    · split at h
      · unfold listP at h
        rcases hx : rowP (listI doc) 93 [] l p with ⟨st, l2, p2⟩ | ⟨b, c⟩
        · rw [hx] at h; cases h
        · rw [hx] at h; injection h with _ h; rw [← h]; exact rowP_err (listI_err hd) hx
      · split at h
        · rcases hx : wordP [116, 114, 117, 101] l with ⟨u, l2⟩ | ⟨b, c⟩
          · rw [hx] at h; cases h
          · rw [hx] at h; injection h with _ h; rw [← h]; exact word_err hx
        · split at h
          · rcases hx : wordP [102, 97, 108, 115, 101] l with ⟨u, l2⟩ | ⟨b, c⟩
            · rw [hx] at h; cases h
            · rw [hx] at h; injection h with _ h; rw [← h]; exact word_err hx
          · split at h
            · rcases hx : shortP l with ⟨u, l2⟩ | ⟨b, c⟩
              · rw [hx] at h; cases h
              · rw [hx] at h; injection h with _ h; rw [← h]; exact short_err hx
            · rcases hx : numberP l with ⟨u, l2⟩ | ⟨b, c⟩
              · rw [hx] at h; cases h
              · rw [hx] at h; injection h with _ h; rw [← h]; exact number_err hx
theorem docP_err : ∀ n, ErrD (docP n)
  | 0 => fun l p a e h => by unfold docP at h; split at h <;> (injection h with _ h; omega)
  | n + 1 => fun l p a e h => by
    unfold docP at h
    split at h
    · injection h with _ h; omega
    · split at h
      · injection h with _ h; omega
      · exact part_err (docP_err n) h
end Go.Proofs.YtmnaaohhageihaaDoor
