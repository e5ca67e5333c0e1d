/-
  Texts read back: names, quoted bytes, numbers, words; plain lemmas.
  Rows read back; plain lemmas.
  A right document's text reads as that document; plain lemmas.
  A right document's text reads as that document; plain lemmas.
  A right document's text, whole, reads as that document; plain lemmas.
-/
import Derived.Test.YtgklnafliaplkaaGreatDoorB03
import Derived.Test.YtgklnafliaplkaaGreatDoorB01
namespace Go.Proofs.YtgklnafliaplkaaGreatDoor

theorem takeWhile_stop {q : UInt8 → Bool} : ∀ {a r : List UInt8}, (∀ c ∈ a, q c = true) → q (pk r) = false → (a ++ r).takeWhile q = a ∧ (a ++ r).dropWhile q = r
  | [], [], _, _ => ⟨rfl, rfl⟩
  | [], c :: r, _, h => by
    have h' : q c = false := h
    simp [h']
  | x :: a, r, ha, h => by
    have h1 := ha x (by simp)
    obtain ⟨i1, i2⟩ := takeWhile_stop (a := a) (r := r) (fun c hc => ha c (by simp [hc])) h
    simp [h1, i1, i2]
theorem takeWhile_stop0 {q : UInt8 → Bool} {a : List UInt8} (ha : ∀ c ∈ a, q c = true) : a.takeWhile q = a ∧ a.dropWhile q = [] := by
  induction a with
  | nil => exact ⟨rfl, rfl⟩
  | cons x t ih =>
    obtain ⟨i1, i2⟩ := ih fun c hc => ha c (by simp [hc])
    have h1 := ha x (by simp)
    simp [h1, i1, i2]
theorem nameP_print {a r : List UInt8} (h1 : lowB (pk a) = true) (h2 : ∀ c ∈ a, namB c = true) (h3 : a.length ≤ 16) (hr : namB (pk r) = false) : nameP (a ++ r) = .ok a r := by
  have hp : pk (a ++ r) = pk a := by
    cases a with
    | nil => exact absurd h1 (by decide)
    | cons x t => rfl
  obtain ⟨e1, e2⟩ := takeWhile_stop h2 hr
  unfold nameP
  rw [hp, if_pos h1, e1, if_neg (by omega), e2]
theorem shortP_print {l r : List UInt8} (h : l.length ≤ 256) : shortP (quoteL l ++ r) = .ok l r := by
  unfold shortP
  rw [bytesP_quote]
  simp only
  rw [if_neg (by omega)]
theorem digitsP_plain_r {l r : List UInt8} (h : l ≠ []) (hd : ∀ c ∈ l, digB c = true) (hp : pk l ≠ 48) (hr : digB (pk r) = false) : digitsP (l ++ r) = .ok () r := by
  have h1 := nq_pk h hd
  have e : pk (l ++ r) = pk l := by
    cases l with
    | nil => exact absurd rfl h
    | cons x t => rfl
  have h45 : pk l ≠ 45 := fun e => by rw [e] at h1; revert h1; decide
  unfold digitsP
  rw [e, if_neg hp]
  simp only [if_neg h45]
  rw [if_neg (by rw [e]; simp [hp, h1]), (takeWhile_stop hd hr).2]
theorem digitsP_minus_r {l r : List UInt8} (h : l ≠ []) (hd : ∀ c ∈ l, digB c = true) (hp : pk l ≠ 48) (hr : digB (pk r) = false) : digitsP (45 :: l ++ r) = .ok () r := by
  have h1 := nq_pk h hd
  have e : pk (l ++ r) = pk l := by
    cases l with
    | nil => exact absurd rfl h
    | cons x t => rfl
  have e45 : pk (45 :: l ++ r) = 45 := rfl
  have et : (45 :: l ++ r).tail = l ++ r := rfl
  unfold digitsP
  rw [if_neg (by rw [e45]; decide)]
  simp only [if_pos e45, et]
  rw [if_neg (by rw [e]; simp [hp, h1]), (takeWhile_stop hd hr).2]
theorem numberP_of {l r : List UInt8} {n : Int} (h : digitsP (l ++ r) = .ok () r) (hv : Lib.atoiAll l = .ok n) : numberP (l ++ r) = .ok n r := by
  have e : (l ++ r).take ((l ++ r).length - r.length) = l := by
    rw [show (l ++ r).length - r.length = l.length by simp]
    simp
  simp only [numberP, h, e, hv]
theorem numberP_print {a : Int} {r : List UInt8} (h0 : -9223372036854775808 ≤ a) (h1 : a ≤ 9223372036854775807) (hr : digB (pk r) = false) : numberP (Lib.itoa a ++ r) = .ok a r := by
  have hv := (numP_some (numP_itoa h0 h1)).2
  refine numberP_of ?_ hv
  rcases Int.lt_trichotomy a 0 with ha | ha | ha
  · obtain ⟨u, rfl⟩ : ∃ u : Nat, a = -(u : Int) := ⟨a.natAbs, by omega⟩
    obtain ⟨f1, f2, f3, f4⟩ := dec_facts u u (Nat.le_refl _) (by omega)
    rw [Lib.itoa_neg u (by omega)]
    exact digitsP_minus_r f3 f2 (f4 (by omega)) hr
  · subst ha
    have e := Lib.itoa_nonneg 0
    rw [Lib.decDigits_one (by omega)] at e
    have e2 : Lib.itoa 0 = [48] := e
    rw [e2]
    unfold digitsP
    rw [if_pos (by rfl)]
    rfl
  · obtain ⟨u, rfl⟩ : ∃ u : Nat, a = (u : Int) := ⟨a.natAbs, by omega⟩
    obtain ⟨f1, f2, f3, f4⟩ := dec_facts u u (Nat.le_refl _) (by omega)
    rw [Lib.itoa_nonneg u]
    exact digitsP_plain_r f3 f2 (f4 (by omega)) hr
theorem wordP_print : ∀ (w r : List UInt8), wordP w (w ++ r) = .ok () r
  | [], r => rfl
  | c :: w, r => by
    have e : pk (c :: w ++ r) = c := rfl
    unfold wordP
    rw [if_pos e]
    exact wordP_print w r
theorem skipL_stop {l : List UInt8} (h : blankC (pk l) = false) : skipL l = l := by
  cases l with
  | nil => rfl
  | cons c r =>
    have h' : blankC c = false := h
    simp [skipL, h']
theorem skipL_blank (l : List UInt8) : skipL (32 :: l) = skipL l := by
  unfold skipL
  rw [if_pos (by decide)]
  cases l <;> rfl
end Go.Proofs.YtgklnafliaplkaaGreatDoor
namespace Go.Proofs.YtgklnafliaplkaaGreatDoor

theorem rowL_print {σ : Type} {item : σ → List UInt8 → Nat → Out σ} {e : UInt8} (he : blankC e = false) (he44 : e ≠ 44) (hbl : ∀ st l p, item st (32 :: l) p = item st l p) :
    ∀ (xs : List (List UInt8)) (sts : Nat → σ) (ps : Nat → Nat) (f : Nat) (r : List UInt8),
      (∀ (i : Nat) (h : i < xs.length) (rest : List UInt8), (pk rest = 44 ∨ pk rest = e) → item (sts i) (xs[i] ++ rest) (ps i) = .ok (sts (i + 1)) rest (ps (i + 1))) →
      xs ≠ [] → xs.length ≤ f → rowL item e f (sts 0) (rowD xs ++ e :: r) (ps 0) = .ok (sts xs.length) r (ps xs.length)
  | [], _, _, _, _, _, h, _ => absurd rfl h
  | [x], sts, ps, f, r, hi, _, hf => by
    obtain ⟨g, rfl⟩ : ∃ g, f = g + 1 := ⟨f - 1, by simp at hf; omega⟩
    have h1 := hi 0 (by simp) (e :: r) (.inr rfl)
    simp only [List.getElem_cons_zero] at h1
    have e1 : rowD [x] ++ e :: r = x ++ e :: r := by simp [rowD]
    have e2 : skipL (e :: r) = e :: r := skipL_stop he
    have e3 : pk (e :: r) = e := rfl
    rw [e1, rowL, h1]
    simp only [e2]
    rw [if_pos e3]
    rfl
  | x :: y :: t, sts, ps, f, r, hi, _, hf => by
    obtain ⟨g, rfl⟩ : ∃ g, f = g + 1 := ⟨f - 1, by simp at hf; omega⟩
    have h1 := hi 0 (by simp) (44 :: 32 :: (rowD (y :: t) ++ e :: r)) (.inl rfl)
    simp only [List.getElem_cons_zero] at h1
    have e1 : rowD (x :: y :: t) ++ e :: r = x ++ 44 :: 32 :: (rowD (y :: t) ++ e :: r) := by simp [rowD]
    have e2 : skipL (44 :: 32 :: (rowD (y :: t) ++ e :: r)) = 44 :: 32 :: (rowD (y :: t) ++ e :: r) := skipL_stop (by show blankC 44 = false; decide)
    have e3 : pk (44 :: 32 :: (rowD (y :: t) ++ e :: r)) = 44 := rfl
    have ih := rowL_print he he44 hbl (y :: t) (fun i => sts (i + 1)) (fun i => ps (i + 1)) g r (fun i h rest hr => by
      have := hi (i + 1) (by simp at h ⊢; omega) rest hr
      simpa using this) (by simp) (by simp at hf ⊢; omega)
    rw [e1, rowL, h1]
    simp only [e2]
    rw [if_neg (by rw [e3]; exact Ne.symm he44), if_pos e3]
    have e4 : (44 :: 32 :: (rowD (y :: t) ++ e :: r)).tail = 32 :: (rowD (y :: t) ++ e :: r) := rfl
    rw [e4]
    have e5 : rowL item e g (sts 1) (32 :: (rowD (y :: t) ++ e :: r)) (ps 1) = rowL item e g (sts 1) (rowD (y :: t) ++ e :: r) (ps 1) := by
      cases g with
      | zero => simp at hf
      | succ g => simp only [rowL, hbl]
    rw [show sts (0 + 1) = sts 1 from rfl, show ps (0 + 1) = ps 1 from rfl, e5]
    simpa using ih
theorem rowD_len_ge : ∀ (xs : List (List UInt8)), (∀ x ∈ xs, x ≠ []) → xs.length ≤ (rowD xs).length
  | [], _ => by simp
  | [x], h => by
    have := List.length_pos_iff.2 (h x (by simp))
    simp [rowD]; omega
  | x :: y :: t, h => by
    have ih := rowD_len_ge (y :: t) fun z hz => h z (by simp only [List.mem_cons] at hz ⊢; exact .inr hz)
    simp only [rowD, List.length_append, List.length_cons] at ih ⊢
    omega
theorem rowP_print {σ : Type} {item : σ → List UInt8 → Nat → Out σ} {c e : UInt8} (he : blankC e = false) (he44 : e ≠ 44) (hbl : ∀ st l p, item st (32 :: l) p = item st l p) (xs : List (List UInt8)) (sts : Nat → σ) (ps : Nat → Nat) (r : List UInt8)
    (hi : ∀ (i : Nat) (h : i < xs.length) (rest : List UInt8), (pk rest = 44 ∨ pk rest = e) → item (sts i) (xs[i] ++ rest) (ps i) = .ok (sts (i + 1)) rest (ps (i + 1)))
    (hx : ∀ x ∈ xs, x ≠ [] ∧ blankC (pk x) = false ∧ pk x ≠ e) : rowP item e (sts 0) (c :: (rowD xs ++ e :: r)) (ps 0) = .ok (sts xs.length) r (ps xs.length) := by
  unfold rowP
  have e1 : (c :: (rowD xs ++ e :: r)).tail = rowD xs ++ e :: r := rfl
  rw [e1]
  cases xs with
  | nil =>
    have e2 : skipL (rowD [] ++ e :: r) = e :: r := skipL_stop he
    have e3 : pk (e :: r) = e := rfl
    rw [e2, if_pos e3]
    rfl
  | cons x t =>
    obtain ⟨h1, h2, h3⟩ := hx x (by simp)
    have e2 : pk (rowD (x :: t) ++ e :: r) = pk x := by
      cases x with
      | nil => exact absurd rfl h1
      | cons a u => simp [rowD, pk]
    have e3 : skipL (rowD (x :: t) ++ e :: r) = rowD (x :: t) ++ e :: r := skipL_stop (by rw [e2]; exact h2)
    rw [e3, if_neg (by rw [e2]; exact h3)]
    have h4 := rowD_len_ge (x :: t) fun z hz => (hx z hz).1
    exact rowL_print he he44 hbl (x :: t) sts ps _ r hi (by simp) (by simp at h4 ⊢; omega)
end Go.Proofs.YtgklnafliaplkaaGreatDoor
namespace Go.Proofs.YtgklnafliaplkaaGreatDoor

theorem takeWhile_allQ {α : Type} {q : α → Bool} {l : List α} (h : ∀ c ∈ l, q c = true) : l.takeWhile q = l := by
  induction l with
  | nil => rfl
  | cons x t ih => rw [List.takeWhile_cons_of_pos (h x (by simp)), ih fun c hc => h c (by simp [hc])]
theorem place_end {ks : List ByteArray} (hr : Rising ks) {i : Nat} (h : i < ks.length) : placeOf (ks.take i) ks[i] = i := by
  have hall : ∀ t (ht : t < i), scmp (ks[t]'(by omega)) ks[i] = -1 := by
    intro t ht
    have h1 : scmp (ks[i - 1]'(by omega)) (ks[i - 1 + 1]'(by omega)) = -1 := hr (i - 1) (by omega)
    have h2 : scmp (ks[i - 1]'(by omega)) ks[i] = -1 := by
      have e : i - 1 + 1 = i := by omega
      simpa [e] using h1
    have h3 := (placeOf_lt (s := ks[i]) hr (i - 1) (by omega)).1 h2
    exact (placeOf_lt (s := ks[i]) hr t (by omega)).2 (by omega)
  unfold placeOf
  have h4 := (takeWhile_allQ (q := fun k => decide (scmp k ks[i] = -1)) (l := ks.take i) (fun k hk => by
    obtain ⟨t, ht, rfl⟩ := List.mem_iff_getElem.1 hk
    have ht' : t < i := by simp at ht; omega
    rw [List.getElem_take]
    simpa using hall t ht'))
  rw [h4]; simp; omega
theorem keyI_print {doc : List UInt8 → Nat → Out D} {key : List UInt8 → Tk (List UInt8)} {sign : UInt8} {ks : List ByteArray} {ds : List D} (hr : Rising ks) {i : Nat} (h : i < ks.length) (hl : ks.length = ds.length) {L L1 L2 rest : List UInt8} {p p' : Nat}
    (h1 : skipL L = L) (h2 : key L = .ok ks[i].data.toList L1) (h3 : skipL L1 = sign :: L2) (h4 : doc L2 p = .ok (ds[i]'(by omega)) rest p') :
    keyI doc key sign (ks.take i, ds.take i) L p = .ok (ks.take (i + 1), ds.take (i + 1)) rest p' := by
  have e0 : (⟨ks[i].data.toList.toArray⟩ : ByteArray) = ks[i] := by cases ks[i]; simp
  have e1 := place_end hr h
  have e2 : hasB (ks.take i) ks[i] = false := by
    unfold hasB
    rw [e1, List.getElem?_eq_none (by simp; omega)]
  have e3 : pk (sign :: L2) = sign := rfl
  have e4 : (sign :: L2).tail = L2 := rfl
  unfold keyI
  rw [h1, h2]
  simp only [e0]
  rw [if_neg (by rw [e2]; simp), h3, if_pos e3, e4, h4]
  simp only [e1, insK]
  have g1 : (ks.take i).take i = ks.take i := by rw [List.take_take]; simp
  have g2 : (ks.take i).drop i = [] := by simp
  have g3 : (ds.take i).take i = ds.take i := by rw [List.take_take]; simp
  have g4 : (ds.take i).drop i = [] := by simp
  rw [g1, g2, g3, g4, List.take_succ_eq_append_getElem h, List.take_succ_eq_append_getElem (show i < ds.length by omega)]
/-- A name, as bytes. -/
def NameL (l : List UInt8) : Prop := lowB (pk l) = true ∧ (∀ c ∈ l, namB c = true) ∧ l.length ≤ 16
def OkN (kind num : Int) (str : ByteArray) (keys : List ByteArray) (m : Nat) : Prop :=
  (kind = 1 ∧ num = 0 ∧ str = ⟨#[]⟩ ∧ keys.length = m ∧ Rising keys ∧ ∀ k ∈ keys, NameL k.data.toList) ∨
  (kind = 2 ∧ num = 0 ∧ str = ⟨#[]⟩ ∧ keys.length = m ∧ Rising keys ∧ ∀ k ∈ keys, k.data.toList.length ≤ 256) ∨
  (kind = 3 ∧ num = 0 ∧ str = ⟨#[]⟩ ∧ keys = []) ∨
  (kind = 4 ∧ (-9223372036854775808 ≤ num ∧ num ≤ 9223372036854775807) ∧ str = ⟨#[]⟩ ∧ keys = [] ∧ m = 0) ∨
  (kind = 5 ∧ (num = 0 ∨ num = 1) ∧ str = ⟨#[]⟩ ∧ keys = [] ∧ m = 0) ∨
  (kind = 6 ∧ num = 0 ∧ str.data.toList.length ≤ 256 ∧ keys = [] ∧ m = 0)
mutual
/-- A right document. -/
def OkD : D → Prop
  | .mk kind num str keys kids => OkN kind num str keys kids.length ∧ OkDs kids
def OkDs : List D → Prop
  | [] => True
  | d :: r => OkD d ∧ OkDs r
end
theorem OkDs.at_ : ∀ {l : List D}, OkDs l → ∀ i (h : i < l.length), OkD l[i]
  | [], _, i, hi => by simp at hi
  | d :: r, h, 0, _ => by simp only [OkDs] at h; exact h.1
  | d :: r, h, i + 1, hi => by simp only [OkDs] at h; simpa using OkDs.at_ h.2 i (by simpa using hi)
theorem sizes_take : ∀ (l : List D) (i : Nat) (h : i < l.length), D.sizes (l.take (i + 1)) = D.sizes (l.take i) + l[i].size
  | [], i, h => by simp at h
  | d :: r, 0, h => by simp [D.sizes]
  | d :: r, i + 1, h => by
    have := sizes_take r i (by simpa using h)
    simp only [List.take_succ_cons, D.sizes, List.getElem_cons_succ] at this ⊢
    omega
theorem sizes_take_le : ∀ (l : List D) (i : Nat), D.sizes (l.take i) ≤ D.sizes l
  | [], i => by simp
  | d :: r, 0 => by simp [D.sizes]
  | d :: r, i + 1 => by have := sizes_take_le r i; simp only [List.take_succ_cons, D.sizes]; omega
theorem depths_at : ∀ (l : List D) (i : Nat) (h : i < l.length), l[i].depth ≤ D.depths l
  | [], i, h => by simp at h
  | d :: r, 0, h => by simp only [List.getElem_cons_zero, D.depths]; omega
  | d :: r, i + 1, h => by have := depths_at r i (by simpa using h); simp only [List.getElem_cons_succ, D.depths]; omega
/-- How a right document's text begins. -/
theorem nodeD_head {kind num : Int} {str : ByteArray} {keys : List ByteArray} {ps : List (List UInt8)} {m : Nat} (h : OkN kind num str keys m) : firstB (pk (nodeD kind num str keys ps)) = true ∧ nodeD kind num str keys ps ≠ [] := by
  rcases h with ⟨rfl, h⟩ | ⟨rfl, h⟩ | ⟨rfl, h⟩ | ⟨rfl, h, _⟩ | ⟨rfl, h, _⟩ | ⟨rfl, h⟩
  · exact ⟨rfl, by simp [nodeD]⟩
  · exact ⟨rfl, by simp [nodeD]⟩
  · exact ⟨rfl, by simp [nodeD]⟩
  · have e : nodeD 4 num str keys ps = Lib.itoa num := by simp [nodeD]
    rw [e]
    rcases (by omega : num < 0 ∨ 0 ≤ num) with hn | hn
    · obtain ⟨u, rfl⟩ : ∃ u : Nat, num = -(u : Int) := ⟨num.natAbs, by omega⟩
      rw [Lib.itoa_neg u (by omega)]
      exact ⟨rfl, by simp⟩
    · obtain ⟨u, rfl⟩ : ∃ u : Nat, num = (u : Int) := ⟨num.natAbs, by omega⟩
      obtain ⟨_, f2, f3, _⟩ := dec_facts u u (Nat.le_refl _) (by omega)
      rw [Lib.itoa_nonneg u]
      have := nq_pk f3 f2
      exact ⟨by simp [firstB, this], f3⟩
  · rcases h with rfl | rfl
    · exact ⟨rfl, by simp [nodeD, boolL]⟩
    · exact ⟨rfl, by simp [nodeD, boolL]⟩
  · exact ⟨rfl, by simp [nodeD, quoteL]⟩
set_option maxRecDepth 100000 in
theorem firstB_facts {c : UInt8} (h : firstB c = true) : blankC c = false ∧ c ≠ 125 ∧ c ≠ 62 ∧ c ≠ 93 := by
  have H : ∀ n : Fin 256, firstB (UInt8.ofNat n.val) = true → blankC (UInt8.ofNat n.val) = false ∧ UInt8.ofNat n.val ≠ 125 ∧ UInt8.ofNat n.val ≠ 62 ∧ UInt8.ofNat n.val ≠ 93 := by decide
  have := H ⟨c.toNat, c.toNat_lt⟩
  simp only [UInt8.ofNat_toNat] at this
  exact this h
end Go.Proofs.YtgklnafliaplkaaGreatDoor
namespace Go.Proofs.YtgklnafliaplkaaGreatDoor

theorem docP_blank (n : Nat) (l : List UInt8) (p : Nat) : docP n (32 :: l) p = docP n l p := by cases n <;> simp only [docP, skipL_blank]
theorem listI_blank {doc : List UInt8 → Nat → Out D} (h : ∀ l p, doc (32 :: l) p = doc l p) (ls : List D) (l : List UInt8) (p : Nat) : listI doc ls (32 :: l) p = listI doc ls l p := by simp only [listI, h]
theorem keyI_blank {doc : List UInt8 → Nat → Out D} {key : List UInt8 → Tk (List UInt8)} {sign : UInt8} (st : List ByteArray × List D) (l : List UInt8) (p : Nat) : keyI doc key sign st (32 :: l) p = keyI doc key sign st l p := by simp only [keyI, skipL_blank]
theorem pk_append {a : List UInt8} (h : a ≠ []) (r : List UInt8) : pk (a ++ r) = pk a := by
  cases a with
  | nil => exact absurd rfl h
  | cons c t => rfl
theorem printD_head {d : D} (h : OkD d) : firstB (pk (printD d)) = true ∧ printD d ≠ [] := by
  obtain ⟨kind, num, str, keys, kids⟩ := d
  simp only [OkD] at h
  simp only [printD]
  exact nodeD_head h.1
theorem recK_lenB (keys : List ByteArray) (ps : List (List UInt8)) (h : keys.length = ps.length) : (recK keys ps).length = keys.length := by simp [recK, h]
theorem dictK_lenB (keys : List ByteArray) (ps : List (List UInt8)) (h : keys.length = ps.length) : (dictK keys ps).length = keys.length := by simp [dictK, h]
theorem low_facts {c : UInt8} (h : lowB c = true) : blankC c = false ∧ c ≠ 125 := by
  have h1 : 97 ≤ c.toNat ∧ c.toNat ≤ 122 := by simpa [lowB] using h
  refine ⟨by simp [blankC]; omega, ?_⟩
  rintro rfl
  have : (125 : UInt8).toNat = 125 := rfl
  omega
section
variable {n : Nat} (ih : ∀ (d : D), d.depth ≤ n → OkD d → ∀ (rest : List UInt8) (p : Nat), (d.kind = 4 → digB (pk rest) = false) → p + d.size ≤ 512 → docP n (printD d ++ rest) p = .ok d rest (p + d.size))
include ih
theorem kid_print {kids : List D} (hd : D.depths kids ≤ n) (hk : OkDs kids) {i : Nat} (h : i < kids.length) {rest : List UInt8} {e : UInt8} (he : digB e = false) (hr : pk rest = 44 ∨ pk rest = e) {p : Nat} (hp : p + D.sizes kids ≤ 512) :
    docP n (printD kids[i] ++ rest) (p + D.sizes (kids.take i)) = .ok kids[i] rest (p + D.sizes (kids.take (i + 1))) := by
  have h1 := sizes_take kids i h
  have h2 := sizes_take_le kids (i + 1)
  have h3 := depths_at kids i h
  have h4 : digB (pk rest) = false := by
    rcases hr with hr | hr
    · rw [hr]; decide
    · rw [hr]; exact he
  rw [ih kids[i] (by omega) (hk.at_ i h) rest _ (fun _ => h4) (by omega), h1, Nat.add_assoc]
theorem list_print {kids : List D} (hd : D.depths kids ≤ n) (hk : OkDs kids) {rest : List UInt8} {p : Nat} (hp : p + D.sizes kids ≤ 512) :
    listP (docP n) (91 :: (rowD (printsD kids) ++ 93 :: rest)) p = .ok (.mk 3 0 ⟨#[]⟩ [] kids) rest (p + D.sizes kids) := by
  have hl := printsD_len kids
  have h := rowP_print (item := listI (docP n)) (c := 91) (e := 93) (by decide) (by decide) (listI_blank (docP_blank n)) (printsD kids) (fun i => kids.take i) (fun i => p + D.sizes (kids.take i)) rest
    (fun i hi rest' hr => by
      have hi' : i < kids.length := by omega
      have h1 := kid_print ih hd hk hi' (e := 93) (by decide) hr hp
      rw [printsD_at kids i hi']
      simp only [listI, h1]
      rw [List.take_succ_eq_append_getElem hi'])
    (fun x hx => by
      obtain ⟨i, hi, rfl⟩ := List.mem_iff_getElem.1 hx
      have hi' : i < kids.length := by omega
      rw [printsD_at kids i hi']
      obtain ⟨g1, g2⟩ := printD_head (hk.at_ i hi')
      obtain ⟨f1, f2, f3, f4⟩ := firstB_facts g1
      exact ⟨g2, f1, f4⟩)
  simp only [List.take_zero, D.sizes, Nat.add_zero, hl, List.take_length] at h
  unfold listP
  rw [h]
theorem rec_print {keys : List ByteArray} {kids : List D} (hl : keys.length = kids.length) (hr : Rising keys) (hn : ∀ k ∈ keys, NameL k.data.toList) (hd : D.depths kids ≤ n) (hk : OkDs kids) {rest : List UInt8} {p : Nat} (hp : p + D.sizes kids ≤ 512) :
    keyedP (docP n) nameP 1 125 61 (123 :: (rowD (recK keys (printsD kids)) ++ 125 :: rest)) p = .ok (.mk 1 0 ⟨#[]⟩ keys kids) rest (p + D.sizes kids) := by
  have hpl := printsD_len kids
  have hlen := recK_lenB keys (printsD kids) (by omega)
  have hat : ∀ i (h : i < (recK keys (printsD kids)).length), (recK keys (printsD kids))[i] = (keys[i]'(by omega)).data.toList ++ ([32, 61, 32] ++ printD (kids[i]'(by omega))) := fun i h => by
    simp only [recK, List.getElem_zipWith]
    rw [printsD_at kids i (by omega)]
  have h := rowP_print (item := keyI (docP n) nameP 61) (c := 123) (e := 125) (by decide) (by decide) (fun st l p => keyI_blank st l p) (recK keys (printsD kids)) (fun i => (keys.take i, kids.take i)) (fun i => p + D.sizes (kids.take i)) rest
    (fun i hi rest' hr' => by
      have hi' : i < kids.length := by omega
      have hik : i < keys.length := by omega
      obtain ⟨n1, n2, n3⟩ := hn keys[i] (List.getElem_mem hik)
      have hne : keys[i].data.toList ≠ [] := by intro e; rw [e] at n1; exact absurd n1 (by decide)
      have h1 := kid_print ih hd hk hi' (e := 125) (by decide) hr' hp
      rw [hat i hi, List.append_assoc]
      refine keyI_print hr hik hl (L1 := 32 :: 61 :: 32 :: (printD kids[i] ++ rest')) (L2 := 32 :: (printD kids[i] ++ rest')) (skipL_stop ?_) ?_ ?_ ?_
      · rw [pk_append hne]; exact (low_facts n1).1
      · have := nameP_print (r := 32 :: 61 :: 32 :: (printD kids[i] ++ rest')) n1 n2 n3 (by show namB 32 = false; decide)
        simpa using this
      · rw [skipL_blank]; exact skipL_stop (by show blankC 61 = false; decide)
      · rw [docP_blank]; exact h1)
    (fun x hx => by
      obtain ⟨i, hi, rfl⟩ := List.mem_iff_getElem.1 hx
      have hik : i < keys.length := by omega
      obtain ⟨n1, n2, n3⟩ := hn keys[i] (List.getElem_mem hik)
      have hne : keys[i].data.toList ≠ [] := by intro e; rw [e] at n1; exact absurd n1 (by decide)
      rw [hat i hi, pk_append hne]
      exact ⟨by simp, (low_facts n1).1, (low_facts n1).2⟩)
  simp only [List.take_zero, D.sizes, Nat.add_zero, hlen, List.take_length] at h
  unfold keyedP
  rw [h]
  simp [hl]
theorem dict_print {keys : List ByteArray} {kids : List D} (hl : keys.length = kids.length) (hr : Rising keys) (hn : ∀ k ∈ keys, k.data.toList.length ≤ 256) (hd : D.depths kids ≤ n) (hk : OkDs kids) {rest : List UInt8} {p : Nat} (hp : p + D.sizes kids ≤ 512) :
    keyedP (docP n) shortP 2 62 58 (60 :: (rowD (dictK keys (printsD kids)) ++ 62 :: rest)) p = .ok (.mk 2 0 ⟨#[]⟩ keys kids) rest (p + D.sizes kids) := by
  have hpl := printsD_len kids
  have hlen := dictK_lenB keys (printsD kids) (by omega)
  have hat : ∀ i (h : i < (dictK keys (printsD kids)).length), (dictK keys (printsD kids))[i] = quoteL (keys[i]'(by omega)).data.toList ++ ([58, 32] ++ printD (kids[i]'(by omega))) := fun i h => by
    simp only [dictK, List.getElem_zipWith]
    rw [printsD_at kids i (by omega)]
  have h := rowP_print (item := keyI (docP n) shortP 58) (c := 60) (e := 62) (by decide) (by decide) (fun st l p => keyI_blank st l p) (dictK keys (printsD kids)) (fun i => (keys.take i, kids.take i)) (fun i => p + D.sizes (kids.take i)) rest
    (fun i hi rest' hr' => by
      have hi' : i < kids.length := by omega
      have hik : i < keys.length := by omega
      have h1 := kid_print ih hd hk hi' (e := 62) (by decide) hr' hp
      rw [hat i hi, List.append_assoc]
      refine keyI_print hr hik hl (L1 := 58 :: 32 :: (printD kids[i] ++ rest')) (L2 := 32 :: (printD kids[i] ++ rest')) (skipL_stop (by show blankC 34 = false; decide)) ?_ (skipL_stop (by show blankC 58 = false; decide)) ?_
      · have := shortP_print (r := 58 :: 32 :: (printD kids[i] ++ rest')) (hn keys[i] (List.getElem_mem hik))
        simpa using this
      · rw [docP_blank]; exact h1)
    (fun x hx => by
      obtain ⟨i, hi, rfl⟩ := List.mem_iff_getElem.1 hx
      have hik : i < keys.length := by omega
      rw [hat i hi]
      have e : pk (quoteL keys[i].data.toList ++ ([58, 32] ++ printD (kids[i]'(by omega)))) = 34 := rfl
      rw [e]
      exact ⟨by simp [quoteL], by decide, by decide⟩)
  simp only [List.take_zero, D.sizes, Nat.add_zero, hlen, List.take_length] at h
  unfold keyedP
  rw [h]
  simp [hl]
end
end Go.Proofs.YtgklnafliaplkaaGreatDoor
namespace Go.Proofs.YtgklnafliaplkaaGreatDoor

theorem docP_print : ∀ (n : Nat) (d : D), d.depth ≤ n → OkD d → ∀ (rest : List UInt8) (p : Nat), (d.kind = 4 → digB (pk rest) = false) → p + d.size ≤ 512 → docP n (printD d ++ rest) p = .ok d rest (p + d.size)
  | 0, d, hd, _, _, _, _, _ => by
    obtain ⟨_, _, _, _, _⟩ := d
    simp [D.depth] at hd
  | n + 1, .mk kind num str keys kids, hd, ho, rest, p, hr, hp => by
    have ih := docP_print n
    obtain ⟨h1, h2⟩ := printD_head ho
    obtain ⟨f1, _⟩ := firstB_facts h1
    have e1 := pk_append h2 rest
    have e2 : skipL (printD (.mk kind num str keys kids) ++ rest) = printD (.mk kind num str keys kids) ++ rest := skipL_stop (by rw [e1]; exact f1)
    simp only [D.size] at hp
    simp only [D.depth] at hd
    unfold docP
    rw [e2, e1, if_neg (by rw [h1]; simp), if_neg (by omega)]
    simp only [OkD] at ho
    obtain ⟨hn, hk⟩ := ho
    simp only [printD, D.size] at *
    rcases hn with ⟨rfl, rfl, rfl, hl, hri, hnm⟩ | ⟨rfl, rfl, rfl, hl, hri, hnm⟩ | ⟨rfl, rfl, rfl, rfl⟩ | ⟨rfl, hb, rfl, rfl, hm⟩ | ⟨rfl, hb, rfl, rfl, hm⟩ | ⟨rfl, rfl, hb, rfl, hm⟩
    · have h := rec_print ih hl hri hnm (by omega) hk (rest := rest) (p := p + 1) (by omega)
      have e : nodeD 1 0 ⟨#[]⟩ keys (printsD kids) ++ rest = 123 :: (rowD (recK keys (printsD kids)) ++ 125 :: rest) := by simp [nodeD]
      rw [e]
      unfold partP
      rw [if_pos (by rfl), h, show p + 1 + D.sizes kids = p + (D.sizes kids + 1) by omega]
    · have h := dict_print ih hl hri hnm (by omega) hk (rest := rest) (p := p + 1) (by omega)
      have e : nodeD 2 0 ⟨#[]⟩ keys (printsD kids) ++ rest = 60 :: (rowD (dictK keys (printsD kids)) ++ 62 :: rest) := by simp [nodeD]
      have e3 : pk (60 :: (rowD (dictK keys (printsD kids)) ++ 62 :: rest)) = 60 := rfl
      rw [e]
      unfold partP
      rw [e3, if_neg (by decide), if_pos rfl, h, show p + 1 + D.sizes kids = p + (D.sizes kids + 1) by omega]
    · have h := list_print ih (by omega) hk (rest := rest) (p := p + 1) (by omega)
      have e : nodeD 3 0 ⟨#[]⟩ [] (printsD kids) ++ rest = 91 :: (rowD (printsD kids) ++ 93 :: rest) := by simp [nodeD]
      have e3 : pk (91 :: (rowD (printsD kids) ++ 93 :: rest)) = 91 := rfl
      rw [e]
      unfold partP
      rw [e3, if_neg (by decide), if_neg (by decide), if_pos rfl, h, show p + 1 + D.sizes kids = p + (D.sizes kids + 1) by omega]
    · have hkz : kids = [] := List.eq_nil_of_length_eq_zero hm
      subst hkz
      have e : nodeD 4 num ⟨#[]⟩ [] (printsD []) = Lib.itoa num := by simp [nodeD]
      have h := numberP_print hb.1 hb.2 (hr rfl)
      have hne : ∀ c : UInt8, c = 123 ∨ c = 60 ∨ c = 91 ∨ c = 116 ∨ c = 102 ∨ c = 34 → pk (Lib.itoa num ++ rest) ≠ c := by
        intro c hc e5
        rcases (by omega : num < 0 ∨ 0 ≤ num) with hn | hn
        · obtain ⟨u, rfl⟩ : ∃ u : Nat, num = -(u : Int) := ⟨num.natAbs, by omega⟩
          rw [Lib.itoa_neg u (by omega)] at e5
          have e6 : c = 45 := e5.symm
          subst e6
          revert hc; decide
        · obtain ⟨u, rfl⟩ : ∃ u : Nat, num = (u : Int) := ⟨num.natAbs, by omega⟩
          obtain ⟨_, g2, g3, _⟩ := dec_facts u u (Nat.le_refl _) (by omega)
          rw [Lib.itoa_nonneg u, pk_append g3] at e5
          have g4 := nq_pk g3 g2
          rw [e5] at g4
          rcases hc with rfl | rfl | rfl | rfl | rfl | rfl <;> exact absurd g4 (by decide)
      rw [e]
      unfold partP
      rw [if_neg (hne _ (by simp)), if_neg (hne _ (by simp)), if_neg (hne _ (by simp)), if_neg (hne _ (by simp)), if_neg (hne _ (by simp)), if_neg (hne _ (by simp)), h]
      simp [D.sizes]
    · have hkz : kids = [] := List.eq_nil_of_length_eq_zero hm
      subst hkz
      rcases hb with rfl | rfl
      · have e : nodeD 5 0 ⟨#[]⟩ [] (printsD []) ++ rest = [102, 97, 108, 115, 101] ++ rest := by simp [nodeD, boolL]
        have h := wordP_print [102, 97, 108, 115, 101] rest
        have e3 : pk ([102, 97, 108, 115, 101] ++ rest) = 102 := rfl
        rw [e]
        unfold partP
        rw [e3, if_neg (by decide), if_neg (by decide), if_neg (by decide), if_neg (by decide), if_pos rfl, h]
        simp [D.sizes]
      · have e : nodeD 5 1 ⟨#[]⟩ [] (printsD []) ++ rest = [116, 114, 117, 101] ++ rest := by simp [nodeD, boolL]
        have h := wordP_print [116, 114, 117, 101] rest
        have e3 : pk ([116, 114, 117, 101] ++ rest) = 116 := rfl
        rw [e]
        unfold partP
        rw [e3, if_neg (by decide), if_neg (by decide), if_neg (by decide), if_pos rfl, h]
        simp [D.sizes]
    · have hkz : kids = [] := List.eq_nil_of_length_eq_zero hm
      subst hkz
      have e : nodeD 6 0 str [] (printsD []) ++ rest = quoteL str.data.toList ++ rest := by simp [nodeD]
      have h := shortP_print (r := rest) hb
      have e3 : pk (quoteL str.data.toList ++ rest) = 34 := rfl
      have e0 : (⟨str.data.toList.toArray⟩ : ByteArray) = str := by cases str; simp
      rw [e]
      unfold partP
      rw [e3, if_neg (by decide), if_neg (by decide), if_neg (by decide), if_neg (by decide), if_neg (by decide), if_pos rfl, h]
      simp [D.sizes, e0]
/-- A whole text. -/
theorem readP_print {d : D} (hd : d.depth ≤ 12) (ho : OkD d) (hs : d.size ≤ 512) : readP (printD d) = .ok d [] := by
  have h := docP_print 12 d hd ho [] 0 (fun _ => by decide) (by omega)
  rw [List.append_nil] at h
  unfold readP
  rw [h]
  simp [skipL]
/-- .. with one byte behind it. -/
theorem readP_more {d : D} (hd : d.depth ≤ 12) (ho : OkD d) (hs : d.size ≤ 512) (h4 : d.kind ≠ 4) (c : UInt8) : readP (printD d ++ [c]) = if blankC c = true then .ok d [] else .bad [c] 4 := by
  have h := docP_print 12 d hd ho [c] 0 (fun e => absurd e h4) (by omega)
  unfold readP
  rw [h]
  cases hb : blankC c <;> simp [skipL, hb]
end Go.Proofs.YtgklnafliaplkaaGreatDoor
