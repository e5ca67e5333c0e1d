/-
  The grammar of documents' texts, as plain functions over what is left of a text.
  slices.BinarySearch in rising strings: how many are less, and whether it is there.
  What is quoted reads as it was; plain lemmas.
  A number's text reads as that number, and what reads as a number is that number's text; plain lemmas.
-/
import Derived.Test.YtgklnafliaplkaaGreatDoorB01
import Derived.Test.YtgklnafliaplkaaGreatDoorB02
import Derived.Lib.AtoiAll
import Derived.Lib.ItoaMem
import Derived.Lib.AtoiAllCases
namespace Go.Proofs.YtgklnafliaplkaaGreatDoor

/-- What a token tells: its value, and what is left; or where the text is wrong (what was left there), and how. -/
inductive Tk (α : Type) where
  | ok (v : α) (l : List UInt8)
  | bad (l : List UInt8) (e : Nat)
/-- .. and of a part of a document: how many parts have begun, too. -/
inductive Out (α : Type) where
  | ok (v : α) (l : List UInt8) (p : Nat)
  | bad (l : List UInt8) (e : Nat)
/-- The byte that is next; zero at the end. -/
def pk (l : List UInt8) : UInt8 := l.headD 0
def blankC (c : UInt8) : Bool := decide (c.toNat = 32) || decide (c.toNat = 9) || decide (c.toNat = 10) || decide (c.toNat = 13)
def skipL : List UInt8 → List UInt8
  | [] => []
  | c :: r => if blankC c = true then skipL r else c :: r
def lowB (c : UInt8) : Bool := decide (97 ≤ c.toNat) && decide (c.toNat ≤ 122)
def digB (c : UInt8) : Bool := decide (48 ≤ c.toNat) && decide (c.toNat ≤ 57)
def namB (c : UInt8) : Bool := lowB c || (digB c || decide (c.toNat = 95))
def nameP (l : List UInt8) : Tk (List UInt8) :=
  if lowB (pk l) = true then (if 16 < (l.takeWhile namB).length then .bad l 8 else .ok (l.takeWhile namB) (l.dropWhile namB)) else .bad l 4
def wordP : List UInt8 → List UInt8 → Tk Unit
  | [], l => .ok () l
  | c :: r, l => if pk l = c then wordP r l.tail else .bad l 4
def digitsP (l : List UInt8) : Tk Unit :=
  if pk l = 48 then .ok () l.tail
  else
    let l1 := if pk l = 45 then l.tail else l
    if pk l1 = 48 ∨ digB (pk l1) = false then .bad l1 4 else .ok () (l1.dropWhile digB)
def numberP (l : List UInt8) : Tk Int :=
  match digitsP l with
  | .bad a b => .bad a b
  | .ok _ l' => match Lib.atoiAll (l.take (l.length - l'.length)) with
    | .ok n => .ok n l'
    | _ => .bad l 8
def hexV (c : UInt8) : Option Nat := if digB c = true then some (c.toNat - 48) else if 97 ≤ c.toNat ∧ c.toNat ≤ 102 then some (c.toNat - 87) else none
def plainC (c : UInt8) : Bool := decide (32 ≤ c.toNat) && decide (c.toNat ≤ 126)
def hexP (l : List UInt8) : Tk Nat := match hexV (pk l) with
  | some n => .ok n l.tail
  | none => .bad l 4
def hex2P (l : List UInt8) : Tk UInt8 := match hexP l with
  | .bad a b => .bad a b
  | .ok h l1 => match hexP l1 with
    | .bad a b => .bad a b
    | .ok g l2 => .ok (UInt8.ofNat (16 * h + g)) l2
def innerP (l : List UInt8) : Tk UInt8 :=
  if plainC (pk l) = false then .bad l 4
  else if pk l ≠ 92 then .ok (pk l) l.tail
  else if pk l.tail = 34 ∨ pk l.tail = 92 then .ok (pk l.tail) l.tail.tail
  else if pk l.tail ≠ 120 then .bad l.tail 4
  else hex2P l.tail.tail
def bytesF : Nat → List UInt8 → List UInt8 → Tk (List UInt8)
  | 0, l, _ => .bad l 4
  | f + 1, l, acc => if pk l = 34 then .ok acc l.tail else match innerP l with
    | .bad a b => .bad a b
    | .ok c l' => bytesF f l' (acc ++ [c])
def bytesP (l : List UInt8) : Tk (List UInt8) := if pk l = 34 then bytesF (l.tail.length + 1) l.tail [] else .bad l 4
def shortP (l : List UInt8) : Tk (List UInt8) := match bytesP l with
  | .bad a b => .bad a b
  | .ok s l' => if 256 < s.length then .bad l 8 else .ok s l'
def firstB (c : UInt8) : Bool := decide (c.toNat = 123) || (decide (c.toNat = 60) || (decide (c.toNat = 91) || (decide (c.toNat = 116) || (decide (c.toNat = 102) || (decide (c.toNat = 34) || (decide (c.toNat = 45) || digB c))))))
def rowL {σ : Type} (item : σ → List UInt8 → Nat → Out σ) (e : UInt8) : Nat → σ → List UInt8 → Nat → Out σ
  | 0, _, l, _ => .bad l 4
  | f + 1, st, l, p => match item st l p with
    | .bad a b => .bad a b
    | .ok st' l' p' => if pk (skipL l') = e then .ok st' (skipL l').tail p' else if pk (skipL l') = 44 then rowL item e f st' (skipL l').tail p' else .bad (skipL l') 4
def rowP {σ : Type} (item : σ → List UInt8 → Nat → Out σ) (e : UInt8) (st : σ) (l : List UInt8) (p : Nat) : Out σ :=
  if pk (skipL l.tail) = e then .ok st (skipL l.tail).tail p else rowL item e ((skipL l.tail).length + 1) st (skipL l.tail) p
def listI (doc : List UInt8 → Nat → Out D) (ls : List D) (l : List UInt8) (p : Nat) : Out (List D) := match doc l p with
  | .bad a b => .bad a b
  | .ok d l' p' => .ok (ls ++ [d]) l' p'
def hasB (ks : List ByteArray) (s : ByteArray) : Bool := match ks[placeOf ks s]? with
  | some k => k.toList == s.toList
  | none => false
def insK {α : Type} (l : List α) (i : Nat) (x : α) : List α := l.take i ++ x :: l.drop i
def keyI (doc : List UInt8 → Nat → Out D) (key : List UInt8 → Tk (List UInt8)) (sign : UInt8) (st : List ByteArray × List D) (l : List UInt8) (p : Nat) : Out (List ByteArray × List D) :=
  match key (skipL l) with
  | .bad a b => .bad a b
  | .ok k l1 =>
    if hasB st.1 ⟨k.toArray⟩ = true then .bad (skipL l) 5
    else if pk (skipL l1) = sign then (match doc (skipL l1).tail p with
      | .bad a b => .bad a b
      | .ok d l2 p' => .ok (insK st.1 (placeOf st.1 ⟨k.toArray⟩) ⟨k.toArray⟩, insK st.2 (placeOf st.1 ⟨k.toArray⟩) d) l2 p')
    else .bad (skipL l1) 4
def keyedP (doc : List UInt8 → Nat → Out D) (key : List UInt8 → Tk (List UInt8)) (kind : Int) (e sign : UInt8) (l : List UInt8) (p : Nat) : Out D :=
  match rowP (keyI doc key sign) e ([], []) l p with
  | .bad a b => .bad a b
  | .ok st l' p' => .ok (.mk kind 0 ⟨#[]⟩ st.1 st.2) l' p'
def listP (doc : List UInt8 → Nat → Out D) (l : List UInt8) (p : Nat) : Out D :=
  match rowP (listI doc) 93 [] l p with
  | .bad a b => .bad a b
  | .ok ls l' p' => .ok (.mk 3 0 ⟨#[]⟩ [] ls) l' p'
def partP (doc : List UInt8 → Nat → Out D) (l : List UInt8) (p : Nat) : Out D :=
  if pk l = 123 then keyedP doc nameP 1 125 61 l p
  else if pk l = 60 then keyedP doc shortP 2 62 58 l p
  else if pk l = 91 then listP doc l p
  else if pk l = 116 then (match wordP [116, 114, 117, 101] l with
    | .bad a b => .bad a b
    | .ok _ l' => .ok (.mk 5 1 ⟨#[]⟩ [] []) l' p)
  else if pk l = 102 then (match wordP [102, 97, 108, 115, 101] l with
    | .bad a b => .bad a b
    | .ok _ l' => .ok (.mk 5 0 ⟨#[]⟩ [] []) l' p)
  else if pk l = 34 then (match shortP l with
    | .bad a b => .bad a b
    | .ok s l' => .ok (.mk 6 0 ⟨s.toArray⟩ [] []) l' p)
  else (match numberP l with
    | .bad a b => .bad a b
    | .ok n l' => .ok (.mk 4 n ⟨#[]⟩ [] []) l' p)
/-- A document that may be n levels deep: what is left of its text, and how many parts had begun. -/
def docP : Nat → List UInt8 → Nat → Out D
  | 0, l, _ => if firstB (pk (skipL l)) = false then .bad (skipL l) 4 else .bad (skipL l) 6
  | n + 1, l, p => if firstB (pk (skipL l)) = false then .bad (skipL l) 4 else if 512 < p + 1 then .bad (skipL l) 2 else partP (docP n) (skipL l) (p + 1)
/-- What a whole text tells. -/
def readP (s : List UInt8) : Tk D := match docP 12 s 0 with
  | .bad l e => .bad l e
  | .ok d l _ => if skipL l = [] then .ok d [] else .bad (skipL l) 4
def unqP (s : List UInt8) : Option (List UInt8) := match bytesP s with
  | .bad _ _ => none
  | .ok v l => if l = [] then some v else none
def numP (s : List UInt8) : Option Int := match numberP s with
  | .bad _ _ => none
  | .ok v l => if l = [] then some v else none

-- the law's own case
def resD : Tk D → Option (D × Nat) := fun t => match t with | .ok d l => some (d, l.length) | .bad _ _ => none
def resE : Tk D → Option (Nat × Nat) := fun t => match t with | .ok _ _ => none | .bad l e => some (l.length, e)
theorem own1 : readP [123, 32, 98, 32, 61, 32, 91, 49, 44, 45, 50, 93, 44, 32, 97, 32, 61, 32, 60, 34, 120, 34, 58, 116, 114, 117, 101, 62, 32, 125] = .ok (.mk 1 0 ⟨#[]⟩ [⟨#[97]⟩, ⟨#[98]⟩] [.mk 2 0 ⟨#[]⟩ [⟨#[120]⟩] [.mk 5 1 ⟨#[]⟩ [] []], .mk 3 0 ⟨#[]⟩ [] [.mk 4 1 ⟨#[]⟩ [] [], .mk 4 (-2) ⟨#[]⟩ [] []]]) [] := by kernel_rfl
theorem own2 : readP [91, 49, 44, 32, 48, 50, 93] = .bad [50, 93] 4 := by kernel_rfl
theorem own3 : readP [123, 97, 32, 61, 32, 49, 44, 32, 97, 32, 61, 32, 50, 125] = .bad [97, 32, 61, 32, 50, 125] 5 := by kernel_rfl
end Go.Proofs.YtgklnafliaplkaaGreatDoor
namespace Go.Proofs.YtgklnafliaplkaaGreatDoor
open Go.RowKit

set_option maxHeartbeats 2000000 in
set_option maxRecDepth 100000 in
theorem search_has {ks : List ByteArray} {s : ByteArray} {v : Value} {w : World} {B : Nat} (hv : Strs w B v ks) (hr : Rising ks) (hn : ks.length ≤ 10000) :
    Calls Tryz.prog 79 #[v, .string s] w fun e w' => e = .returned (.tuple #[.int .i64 (placeOf ks s : Nat), .bool (hasB ks s)]) ∧ w = w' := by
  obtain ⟨A, c, rfl, hc, hcells⟩ := hv
  have HC := Lib.hid hcells; have HR := Lib.hid hr
  have hp := placeOf_le ks s
  obtain ⟨p, hpe⟩ : ∃ p, p = placeOf ks s := ⟨_, rfl⟩
  have HP := Lib.hid hpe
  obtain ⟨fb, hfb⟩ : ∃ fb, fb = hasB ks s := ⟨_, rfl⟩
  have HFB : Hid ((∀ h : p < ks.length, fb = (ks[p].toList == s.toList)) ∧ (¬ p < ks.length → fb = false)) := Lib.hid (by
    subst hpe; subst hfb
    refine ⟨fun h => ?_, fun h => ?_⟩
    · unfold hasB; rw [List.getElem?_eq_getElem h]
    · unfold hasB; rw [List.getElem?_eq_none (by omega)])
  rw [← hfb]
  rw [← hpe] at hp ⊢
  clear hcells hr hpe hfb
  go_enter Tryz.func79, Tryz.ntmps79
  go_wp2_with fail
  go_loop [7, 8] (fun a b => ∃ i j : Nat, i ≤ p ∧ p ≤ j ∧ j ≤ ks.length ∧ a = .int .i64 i ∧ b = .int .i64 j) (fun a b => (intOf b).toNat - (intOf a).toNat)
  case atStart => exact ⟨0, ks.length, Nat.zero_le _, hp, Nat.le_refl _, rfl, rfl⟩
  case round =>
    obtain ⟨i, j, h1, h2, h3, rfl, rfl⟩ := hrel
    by_cases hlt : i < j
    · have hw : IntKind.i64.wrap ((i : Int) + (j : Int)) = (i : Int) + (j : Int) := IntWalk.i64_in _ (by omega)
      have hlt2 : (i : Int) < (j : Int) := by omega
      obtain ⟨h, hh⟩ : ∃ h : Nat, h = (i + j) / 2 := ⟨_, rfl⟩
      have hhi : ((i : Int) + (j : Int)) / 2 = (h : Int) := by omega
      have hb1 : i ≤ h := by omega
      have hb2 : h < j := by omega
      have hlen : h < ks.length := by omega
      have hb3 : (h : Int) < (ks.length : Int) := by omega
      have hb4 : (0 : Int) ≤ (h : Int) := by omega
      obtain ⟨b, off, rfl, _, hcx⟩ := HC.out (by omega)
      have gx := hcx h hlen
      have hls := less_place (s := s) HR.out h hlen
      rw [← HP.out] at hls
      clear hcx hh
      by_cases hl : h < p
      · have hls' : Op.bytesLess (ks[h]'hlen).toList s.toList = true := by rw [hls]; simp [hl]
        clear hls
        go_wp2_with (go_at_call 98; refine (less_any _ _ _).mono ?_; rintro e w' ⟨rfl, rfl⟩)
        go_round
        case rel => exact ⟨h + 1, j, by omega, h2, h3, by go_num, rfl⟩
        case measure => simp [intOf]; omega
      · have hls' : Op.bytesLess (ks[h]'hlen).toList s.toList = false := by rw [hls]; simp [hl]
        clear hls
        go_wp2_with (go_at_call 98; refine (less_any _ _ _).mono ?_; rintro e w' ⟨rfl, rfl⟩)
        go_round
        case rel => exact ⟨i, h, h1, by omega, by omega, rfl, rfl⟩
        case measure => simp [intOf]; omega
    · obtain rfl : i = p := by omega
      obtain rfl : j = i := by omega
      clear hlt
      by_cases hend : j < ks.length
      · obtain ⟨b, off, rfl, _, hcx⟩ := HC.out (by omega)
        have gx := hcx j hend
        have hfe := HFB.out.1 hend
        have hb3 : (j : Int) < (ks.length : Int) := by omega
        have hb4 : (0 : Int) ≤ (j : Int) := by omega
        clear hcx
        cases he : (ks[j].toList == s.toList) with
        | true =>
          rw [he] at hfe
          have HFE := Lib.hid hfe
          clear hfe
          go_wp2_with (go_at_call 99; refine (isNaN2_any _ _).mono ?_; rintro e w' ⟨rfl, rfl⟩)
          go_ret2
          exact ⟨by rw [HFE.out]; rfl, rfl⟩
        | false =>
          rw [he] at hfe
          have HFE := Lib.hid hfe
          clear hfe
          go_wp2_with (go_at_call 99; refine (isNaN2_any _ _).mono ?_; rintro e w' ⟨rfl, rfl⟩)
          go_ret2
          exact ⟨by rw [HFE.out]; rfl, rfl⟩
      · have hb3 : ¬ (j : Int) < (ks.length : Int) := by omega
        have HFE := Lib.hid (HFB.out.2 hend)
        go_wp2_with fail
        go_ret2
        exact ⟨by rw [HFE.out]; rfl, rfl⟩
end Go.Proofs.YtgklnafliaplkaaGreatDoor
namespace Go.Proofs.YtgklnafliaplkaaGreatDoor

theorem u8_of {n : Nat} {c : UInt8} (h : n = c.toNat) : UInt8.ofNat n = c := by subst h; simp
theorem hexV_hexD : ∀ n, n < 16 → hexV (UInt8.ofNat (hexD n)) = some n := by decide
theorem hexD_plain : ∀ n, n < 16 → 32 ≤ (UInt8.ofNat (hexD n)).toNat ∧ (UInt8.ofNat (hexD n)).toNat ≤ 126 := by decide
theorem u8_eq {a b : UInt8} (h : a.toNat = b.toNat) : a = b := UInt8.toNat_inj.1 h
theorem innerP_quote (c : UInt8) (r : List UInt8) : innerP (quoteC c ++ r) = .ok c r := by
  have hc : c.toNat < 256 := c.toNat_lt
  unfold quoteC
  split
  · rename_i h
    have h' : c = 34 ∨ c = 92 := h.imp (fun h => u8_eq h) (fun h => u8_eq h)
    have e1 : plainC (pk ([92, c] ++ r)) = true := by simp [pk]; decide
    unfold innerP
    rw [if_neg (by rw [e1]; simp), if_neg (by simp [pk])]
    simp [pk, h']
  · rename_i h
    split
    · rename_i h2
      have e1 : plainC (pk ([c] ++ r)) = true := by simp [pk, plainC, h2.1, h2.2]
      have e2 : c ≠ 92 := fun e => h (.inr (by subst e; rfl))
      unfold innerP
      rw [if_neg (by rw [e1]; simp), if_pos (by simpa [pk] using e2)]
      simp [pk]
    · have e1 : plainC (pk ([92, 120, UInt8.ofNat (hexD (c.toNat / 16)), UInt8.ofNat (hexD (c.toNat % 16))] ++ r)) = true := by simp [pk]; decide
      unfold innerP
      rw [if_neg (by rw [e1]; simp), if_neg (by simp [pk]), if_neg (by simp [pk]), if_neg (by simp [pk])]
      simp only [List.cons_append, List.nil_append, List.tail_cons]
      have h1 := hexV_hexD (c.toNat / 16) (by omega)
      have h2 := hexV_hexD (c.toNat % 16) (by omega)
      simp only [hex2P, hexP, pk, List.headD_cons, h1, List.tail_cons, h2]
      rw [u8_of (c := c) (by omega)]
theorem quoteC_head (c : UInt8) (r : List UInt8) : pk (quoteC c ++ r) ≠ 34 := by
  unfold quoteC
  split
  · simp [pk]
  · rename_i h
    split
    · intro e
      have e2 : c = 34 := by simpa [pk] using e
      exact h (.inl (by subst e2; rfl))
    · simp [pk]
theorem quoteI_cons (c : UInt8) (l : List UInt8) : quoteI (c :: l) = quoteC c ++ quoteI l := by simp [quoteI]
theorem quoteC_pos (c : UInt8) : 1 ≤ (quoteC c).length := by unfold quoteC; split; simp; split <;> simp
theorem quoteI_ge : ∀ l : List UInt8, l.length ≤ (quoteI l).length
  | [] => by simp
  | c :: r => by
    have h1 := quoteC_pos c
    have h2 := quoteI_ge r
    rw [quoteI_cons, List.length_append, List.length_cons]; omega
theorem bytesF_quote : ∀ (l : List UInt8) (f : Nat) (acc r : List UInt8), l.length < f → bytesF f (quoteI l ++ 34 :: r) acc = .ok (acc ++ l) r
  | [], f, acc, r, h => by
    obtain ⟨g, rfl⟩ : ∃ g, f = g + 1 := ⟨f - 1, by simp at h; omega⟩
    simp [quoteI, bytesF, pk]
  | c :: l, f, acc, r, h => by
    obtain ⟨g, rfl⟩ : ∃ g, f = g + 1 := ⟨f - 1, by simp at h; omega⟩
    rw [quoteI_cons, List.append_assoc, bytesF, if_neg (quoteC_head c _), innerP_quote]
    simp only
    rw [bytesF_quote l g (acc ++ [c]) r (by simp at h; omega)]
    simp
theorem bytesP_quote (l r : List UInt8) : bytesP (quoteL l ++ r) = .ok l r := by
  unfold bytesP quoteL
  rw [if_pos (by simp [pk])]
  have h := quoteI_ge l
  have e : (34 :: (quoteI l ++ [34]) ++ r).tail = quoteI l ++ 34 :: r := by simp
  rw [e, bytesF_quote l _ [] r (by simp; omega)]
  simp
theorem unqP_quote (l : List UInt8) : unqP (quoteL l) = some l := by
  have h := bytesP_quote l []
  rw [List.append_nil] at h
  simp [unqP, h]
theorem quoteL_inj {a b : List UInt8} (h : quoteL a = quoteL b) : a = b := by
  have h1 := unqP_quote a
  rw [h, unqP_quote b] at h1
  exact (Option.some.inj h1).symm
theorem quoteC_plain (c : UInt8) : ∀ b ∈ quoteC c, 32 ≤ b.toNat ∧ b.toNat ≤ 126 := by
  have hc : c.toNat < 256 := c.toNat_lt
  intro b hb
  unfold quoteC at hb
  split at hb
  · rename_i h
    simp only [List.mem_cons, List.not_mem_nil, or_false] at hb
    rcases hb with rfl | rfl
    · decide
    · omega
  · split at hb
    · simp only [List.mem_cons, List.not_mem_nil, or_false] at hb
      subst hb; assumption
    · simp only [List.mem_cons, List.not_mem_nil, or_false] at hb
      rcases hb with rfl | rfl | rfl | rfl
      · decide
      · decide
      · exact hexD_plain _ (by omega)
      · exact hexD_plain _ (by omega)
theorem quoteL_plain (l : List UInt8) : ∀ b ∈ quoteL l, 32 ≤ b.toNat ∧ b.toNat ≤ 126 := by
  intro b hb
  unfold quoteL quoteI at hb
  simp only [List.mem_cons, List.mem_append, List.not_mem_nil, or_false] at hb
  rcases hb with rfl | hb | rfl
  · decide
  · obtain ⟨c, _, h⟩ := List.mem_flatMap.1 hb
    exact quoteC_plain c b h
  · decide
end Go.Proofs.YtgklnafliaplkaaGreatDoor
namespace Go.Proofs.YtgklnafliaplkaaGreatDoor

def foldD (acc : Nat) (l : List UInt8) : Nat := l.foldl (fun a c => a * 10 + (c.toNat - 48)) acc
theorem uint_fold : ∀ (l : List UInt8) (acc u : Nat), Lib.parseUint10 acc l = .ok u → u = foldD acc l
  | [], acc, u, h => by simp only [Lib.parseUint10, Lib.NumEnd.ok.injEq] at h; simp [foldD, h]
  | c :: r, acc, u, h => by
    simp only [Lib.parseUint10] at h
    split at h
    · split at h
      · cases h
      · split at h
        · cases h
        · have := uint_fold r _ u h
          simpa [foldD] using this
    · cases h
theorem nq_digB {c : UInt8} (h : digB c = true) : 48 ≤ c.toNat ∧ c.toNat ≤ 57 := by simpa [digB] using h
theorem nq_of {c : UInt8} (h : 48 ≤ c.toNat ∧ c.toNat ≤ 57) : digB c = true := by simpa [digB] using h
theorem nq_u8 {n : Nat} {c : UInt8} (h : n = c.toNat) : UInt8.ofNat n = c := by subst h; simp
theorem nq_ne {c : UInt8} (h : c ≠ 48) : c.toNat ≠ 48 := fun e => h (UInt8.toNat_inj.1 e)
theorem dec_fold : ∀ (n : Nat) (l : List UInt8), l.length = n + 1 → (∀ c ∈ l, digB c = true) → pk l ≠ 48 → Lib.decDigits (foldD 0 l) = l ∧ 1 ≤ foldD 0 l
  | 0, l, hl, hd, hp => by
    match l, hl with
    | [c], _ =>
      have h1 := nq_digB (hd c (by simp))
      have h2 := nq_ne (c := c) hp
      have e : foldD 0 [c] = c.toNat - 48 := by simp [foldD]
      rw [e]
      refine ⟨?_, by omega⟩
      rw [Lib.decDigits_one (by omega), nq_u8 (c := c) (by omega)]
  | n + 1, l, hl, hd, hp => by
    have hne : l ≠ [] := by rintro rfl; simp at hl
    obtain ⟨m, c, rfl⟩ : ∃ m c, l = m ++ [c] := ⟨l.dropLast, l.getLast hne, (List.dropLast_concat_getLast hne).symm⟩
    have hm : m.length = n + 1 := by simpa using hl
    have hpm : pk (m ++ [c]) = pk m := by
      cases m with
      | nil => simp at hm
      | cons x t => rfl
    rw [hpm] at hp
    obtain ⟨h1, h2⟩ := dec_fold n m hm (fun x hx => hd x (by simp [hx])) hp
    have h3 := nq_digB (hd c (by simp))
    have e : foldD 0 (m ++ [c]) = foldD 0 m * 10 + (c.toNat - 48) := by simp [foldD, List.foldl_append]
    rw [e]
    refine ⟨?_, by omega⟩
    rw [Lib.decDigits, dif_neg (by omega), show (foldD 0 m * 10 + (c.toNat - 48)) / 10 = foldD 0 m by omega, show (foldD 0 m * 10 + (c.toNat - 48)) % 10 = c.toNat - 48 by omega, h1, nq_u8 (c := c) (by omega)]
theorem uint_snoc : ∀ (l : List UInt8) (acc a : Nat) (c : UInt8), Lib.parseUint10 acc l = .ok a → 48 ≤ c.toNat ∧ c.toNat ≤ 57 → a * 10 + (c.toNat - 48) < 18446744073709551616 → Lib.parseUint10 acc (l ++ [c]) = .ok (a * 10 + (c.toNat - 48))
  | [], acc, a, c, h, hc, hb => by
    simp only [Lib.parseUint10, Lib.NumEnd.ok.injEq] at h
    subst h
    simp only [List.nil_append, Lib.parseUint10]
    rw [if_pos hc, if_neg (by omega), if_neg (by omega)]
  | x :: r, acc, a, c, h, hc, hb => by
    simp only [List.cons_append, Lib.parseUint10] at h ⊢
    split at h
    · rename_i hx
      rw [if_pos hx]
      split at h
      · cases h
      · rename_i h1
        rw [if_neg h1]
        split at h
        · cases h
        · rename_i h2
          rw [if_neg h2]
          exact uint_snoc r _ a c h hc hb
    · cases h
theorem nq_to {n : Nat} (h : n < 10) : (UInt8.ofNat (48 + n)).toNat = 48 + n := by simp; omega
theorem dec_facts (N : Nat) : ∀ u, u ≤ N → u < 18446744073709551616 → Lib.parseUint10 0 (Lib.decDigits u) = .ok u ∧ (∀ c ∈ Lib.decDigits u, digB c = true) ∧ Lib.decDigits u ≠ [] ∧ (1 ≤ u → pk (Lib.decDigits u) ≠ 48) := by
  induction N with
  | zero =>
    intro u hu _
    obtain rfl : u = 0 := by omega
    rw [Lib.decDigits_one (by omega)]
    exact ⟨by decide, by decide, by decide, fun h => absurd h (by omega)⟩
  | succ N ih =>
    intro u hu hb
    by_cases h10 : u < 10
    · rw [Lib.decDigits_one h10]
      have h1 := nq_to h10
      refine ⟨?_, ?_, by simp, fun h e => ?_⟩
      · have h2 := uint_snoc [] 0 0 (UInt8.ofNat (48 + u)) rfl (by rw [h1]; omega) (by rw [h1]; omega)
        rw [h1, show 0 * 10 + (48 + u - 48) = u by omega] at h2
        exact h2
      · intro c hc
        simp only [List.mem_cons, List.not_mem_nil, or_false] at hc
        subst hc
        exact nq_of (by rw [h1]; omega)
      · have e2 : UInt8.ofNat (48 + u) = 48 := e
        rw [e2] at h1
        have h3 : (48 : UInt8).toNat = 48 := rfl
        omega
    · obtain ⟨i1, i2, i3, i4⟩ := ih (u / 10) (by omega) (by omega)
      have h1 := nq_to (n := u % 10) (by omega)
      rw [Lib.decDigits, dif_neg h10]
      refine ⟨?_, ?_, by simp, fun _ => ?_⟩
      · have h2 := uint_snoc _ 0 _ (UInt8.ofNat (48 + u % 10)) i1 (by rw [h1]; omega) (by rw [h1]; omega)
        rw [h1, show u / 10 * 10 + (48 + u % 10 - 48) = u by omega] at h2
        exact h2
      · intro c hc
        rcases List.mem_append.1 hc with hc | hc
        · exact i2 c hc
        · simp only [List.mem_cons, List.not_mem_nil, or_false] at hc
          subst hc
          exact nq_of (by rw [h1]; omega)
      · have i5 := i4 (by omega)
        cases hx : Lib.decDigits (u / 10) with
        | nil => exact absurd hx i3
        | cons x t => rw [hx] at i5; exact i5
theorem nq_dropWhile : ∀ {l : List UInt8}, (∀ c ∈ l, digB c = true) → l.dropWhile digB = []
  | [], _ => rfl
  | c :: r, h => by rw [List.dropWhile_cons_of_pos (h c (by simp))]; exact nq_dropWhile fun x hx => h x (by simp [hx])
theorem nq_all : ∀ {l : List UInt8}, l.dropWhile digB = [] → ∀ c ∈ l, digB c = true
  | [], _, c, hc => by simp at hc
  | x :: r, h, c, hc => by
    by_cases hx : digB x = true
    · rw [List.dropWhile_cons_of_pos hx] at h
      rcases List.mem_cons.1 hc with rfl | hc
      · exact hx
      · exact nq_all h c hc
    · rw [List.dropWhile_cons_of_neg hx] at h; cases h
theorem nq_pk {l : List UInt8} (h : l ≠ []) (hd : ∀ c ∈ l, digB c = true) : digB (pk l) = true := by
  cases l with
  | nil => exact absurd rfl h
  | cons c r => exact hd c (by simp)
theorem digitsP_plain {l : List UInt8} (h : l ≠ []) (hd : ∀ c ∈ l, digB c = true) (hp : pk l ≠ 48) : digitsP l = .ok () [] := by
  have h1 := nq_pk h hd
  have h45 : pk l ≠ 45 := fun e => by rw [e] at h1; revert h1; decide
  unfold digitsP
  rw [if_neg hp]
  simp only [if_neg h45]
  rw [if_neg (by simp [hp, h1]), nq_dropWhile hd]
theorem digitsP_minus {l : List UInt8} (h : l ≠ []) (hd : ∀ c ∈ l, digB c = true) (hp : pk l ≠ 48) : digitsP (45 :: l) = .ok () [] := by
  have h1 := nq_pk h hd
  have e45 : pk (45 :: l) = 45 := rfl
  unfold digitsP
  rw [if_neg (by rw [e45]; decide)]
  simp only [if_pos e45, List.tail_cons]
  rw [if_neg (by simp [hp, h1]), nq_dropWhile hd]
theorem numP_of {s : List UInt8} {n : Int} (h : digitsP s = .ok () []) (hv : Lib.atoiAll s = .ok n) : numP s = some n := by
  simp only [numP, numberP, h, List.length_nil, Nat.sub_zero, List.take_length, hv, if_true]
theorem mag_of {l : List UInt8} (h : l ≠ []) : Lib.parseMag l = Lib.parseUint10 0 l := by unfold Lib.parseMag; rw [if_neg h]
theorem plain_of {l : List UInt8} (h : l ≠ []) (hd : ∀ c ∈ l, digB c = true) : Lib.atoiAll l = Lib.signless (Lib.parseUint10 0 l) := by
  cases l with
  | nil => exact absurd rfl h
  | cons c r =>
    have h1 := nq_digB (hd c (by simp))
    rw [Lib.atoiAll_plain c r (by omega) (by omega), mag_of h]
theorem numP_itoa {a : Int} (h0 : -9223372036854775808 ≤ a) (h1 : a ≤ 9223372036854775807) : numP (Lib.itoa a) = some a := by
  rcases Int.lt_trichotomy a 0 with ha | ha | ha
  · obtain ⟨u, rfl⟩ : ∃ u : Nat, a = -(u : Int) := ⟨a.natAbs, by omega⟩
    obtain ⟨f1, f2, f3, f4⟩ := dec_facts u u (Nat.le_refl _) (by omega)
    rw [Lib.itoa_neg u (by omega)]
    refine numP_of (digitsP_minus f3 f2 (f4 (by omega))) ?_
    rw [Lib.atoiAll_minus, mag_of f3, f1]
    simp only [Lib.signed]
    rw [if_neg (by omega)]
  · subst ha
    have e := Lib.itoa_nonneg 0
    rw [Lib.decDigits_one (by omega)] at e
    have e2 : Lib.itoa 0 = [48] := e
    rw [e2]
    decide
  · obtain ⟨u, rfl⟩ : ∃ u : Nat, a = (u : Int) := ⟨a.natAbs, by omega⟩
    obtain ⟨f1, f2, f3, f4⟩ := dec_facts u u (Nat.le_refl _) (by omega)
    rw [Lib.itoa_nonneg u]
    refine numP_of (digitsP_plain f3 f2 (f4 (by omega))) ?_
    rw [plain_of f3 f2, f1]
    simp only [Lib.signless]
    rw [if_neg (by omega)]
theorem itoa_inj {a b : Int} (a0 : -9223372036854775808 ≤ a) (a1 : a ≤ 9223372036854775807) (b0 : -9223372036854775808 ≤ b) (b1 : b ≤ 9223372036854775807) (h : Lib.itoa a = Lib.itoa b) : a = b := by
  have h1 := numP_itoa a0 a1
  rw [h, numP_itoa b0 b1] at h1
  exact (Option.some.inj h1).symm
theorem numP_some {s : List UInt8} {m : Int} (h : numP s = some m) : digitsP s = .ok () [] ∧ Lib.atoiAll s = .ok m := by
  unfold numP numberP at h
  cases hd : digitsP s with
  | bad a b => rw [hd] at h; simp at h
  | ok u l' =>
    rw [hd] at h
    simp only at h
    cases hv : Lib.atoiAll (s.take (s.length - l'.length)) with
    | ok n =>
      rw [hv] at h
      simp only at h
      split at h
      · rename_i hl
        subst hl
        simp only [Option.some.injEq] at h
        subst h
        simp only [List.length_nil, Nat.sub_zero, List.take_length] at hv
        exact ⟨rfl, hv⟩
      · cases h
    | _ => rw [hv] at h; simp at h
theorem itoa_of_num {s : List UInt8} {m : Int} (h : numP s = some m) : Lib.itoa m = s := by
  obtain ⟨hd, hv⟩ := numP_some h
  unfold digitsP at hd
  split at hd
  · rename_i h48
    simp only [Tk.ok.injEq, true_and] at hd
    match s, hd, h48 with
    | [c], _, h48 =>
      have hc : c = 48 := h48
      subst hc
      have e : Lib.atoiAll [48] = .ok 0 := by decide
      rw [e] at hv
      simp only [Lib.NumEnd.ok.injEq] at hv
      subst hv
      have e1 := Lib.itoa_nonneg 0
      rw [Lib.decDigits_one (by omega)] at e1
      exact e1
  · rename_i h48
    by_cases h45 : pk s = 45
    · simp only [if_pos h45] at hd
      match s, h45 with
      | c :: t, h45 =>
        have hc : c = 45 := h45
        subst hc
        have hd2 : (if pk t = 48 ∨ digB (pk t) = false then Tk.bad t 4 else Tk.ok () (t.dropWhile digB)) = Tk.ok () [] := hd
        clear hd
        have hd := hd2
        clear hd2
        split at hd
        · cases hd
        · rename_i hx
          simp only [Tk.ok.injEq, true_and] at hd
          have hx1 : pk t ≠ 48 := fun e => hx (.inl e)
          have hall := nq_all hd
          have hne : t ≠ [] := by rintro rfl; exact hx (.inr (by decide))
          rw [Lib.atoiAll_minus, mag_of hne] at hv
          cases hu : Lib.parseUint10 0 t with
          | ok u =>
            have hf := uint_fold t 0 u hu
            obtain ⟨g1, g2⟩ := dec_fold (t.length - 1) t (by have := List.length_pos_iff.2 hne; omega) hall hx1
            rw [← hf] at g1 g2
            rw [hu] at hv
            simp only [Lib.signed] at hv
            split at hv
            · cases hv
            · simp only [Lib.NumEnd.ok.injEq] at hv
              rw [← hv, Lib.itoa_neg u g2, g1]
          | _ => rw [hu] at hv; cases hv
    · simp only [if_neg h45] at hd
      split at hd
      · cases hd
      · rename_i hx
        simp only [Tk.ok.injEq, true_and] at hd
        have hall := nq_all hd
        have hne : s ≠ [] := by rintro rfl; exact hx (.inr (by decide))
        rw [plain_of hne hall] at hv
        cases hu : Lib.parseUint10 0 s with
        | ok u =>
          have hf := uint_fold s 0 u hu
          obtain ⟨g1, g2⟩ := dec_fold (s.length - 1) s (by have := List.length_pos_iff.2 hne; omega) hall h48
          rw [← hf] at g1 g2
          rw [hu] at hv
          simp only [Lib.signless] at hv
          split at hv
          · cases hv
          · simp only [Lib.NumEnd.ok.injEq] at hv
            rw [← hv, Lib.itoa_nonneg u, g1]
        | _ => rw [hu] at hv; cases hv
theorem num_bounds {s : List UInt8} {m : Int} (h : numP s = some m) : -9223372036854775808 ≤ m ∧ m ≤ 9223372036854775807 := by
  obtain ⟨_, hv⟩ := numP_some h
  unfold Lib.atoiAll at hv
  split at hv
  · cases hv
  · simp only at hv
    split at hv
    · cases hv
    · cases hv
    · rename_i u _
      split at hv
      · cases hv
      · split at hv
        · cases hv
        · simp only [Lib.NumEnd.ok.injEq] at hv
          split at hv <;> omega
end Go.Proofs.YtgklnafliaplkaaGreatDoor
