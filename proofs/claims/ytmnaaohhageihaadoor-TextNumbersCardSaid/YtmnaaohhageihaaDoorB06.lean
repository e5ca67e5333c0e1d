/-
  The grammar of documents' texts, as plain functions over what is left of a text.
  slices.BinarySearch in rising strings: how many are less, and whether it is there.
-/
import Derived.Test.YtmnaaohhageihaaDoorB04
import Derived.Test.YtmnaaohhageihaaDoorB05
import Derived.Lib.AtoiAll
namespace Go.Proofs.YtmnaaohhageihaaDoor

/-- What a token tells: its value, and what is left; or where the text is wrong (what was left there), and how. -/
inductive Tk (α : Type) where
  | ok (v : α) (l : List UInt8)
  | bad (l : List UInt8) (e : Nat)
/-- .. and of a part of a document: how many parts have begun, too. -/
inductive Out (α : Type) where
  | ok (v : α) (l : List UInt8) (p : Nat)
  | bad (l : List UInt8) (e : Nat)
/-- The byte that is next; zero at the end. -/
def pk (l : List UInt8) : UInt8 := l.headD 0
def blankC (c : UInt8) : Bool := decide (c.toNat = 32) || decide (c.toNat = 9) || decide (c.toNat = 10) || decide (c.toNat = 13)
def skipL : List UInt8 → List UInt8
  | [] => []
  | c :: r => if blankC c = true then skipL r else c :: r
def lowB (c : UInt8) : Bool := decide (97 ≤ c.toNat) && decide (c.toNat ≤ 122)
def digB (c : UInt8) : Bool := decide (48 ≤ c.toNat) && decide (c.toNat ≤ 57)
def namB (c : UInt8) : Bool := lowB c || (digB c || decide (c.toNat = 95))
def nameP (l : List UInt8) : Tk (List UInt8) :=
  if lowB (pk l) = true then (if 16 < (l.takeWhile namB).length then .bad l 8 else .ok (l.takeWhile namB) (l.dropWhile namB)) else .bad l 4
def wordP : List UInt8 → List UInt8 → Tk Unit
  | [], l => .ok () l
  | c :: r, l => if pk l = c then wordP r l.tail else .bad l 4
def digitsP (l : List UInt8) : Tk Unit :=
  if pk l = 48 then .ok () l.tail
  else
    let l1 := if pk l = 45 then l.tail else l
    if pk l1 = 48 ∨ digB (pk l1) = false then .bad l1 4 else .ok () (l1.dropWhile digB)
def numberP (l : List UInt8) : Tk Int :=
  match digitsP l with
  | .bad a b => .bad a b
  | .ok _ l' => match Lib.atoiAll (l.take (l.length - l'.length)) with
    | .ok n => .ok n l'
    | _ => .bad l 8
def hexV (c : UInt8) : Option Nat := if digB c = true then some (c.toNat - 48) else if 97 ≤ c.toNat ∧ c.toNat ≤ 102 then some (c.toNat - 87) else none
def plainC (c : UInt8) : Bool := decide (32 ≤ c.toNat) && decide (c.toNat ≤ 126)
def hexP (l : List UInt8) : Tk Nat := match hexV (pk l) with
  | some n => .ok n l.tail
  | none => .bad l 4
def hex2P (l : List UInt8) : Tk UInt8 := match hexP l with
  | .bad a b => .bad a b
  | .ok h l1 => match hexP l1 with
    | .bad a b => .bad a b
    | .ok g l2 => .ok (UInt8.ofNat (16 * h + g)) l2
def innerP (l : List UInt8) : Tk UInt8 :=
  if plainC (pk l) = false then .bad l 4
  else if pk l ≠ 92 then .ok (pk l) l.tail
  else if pk l.tail = 34 ∨ pk l.tail = 92 then .ok (pk l.tail) l.tail.tail
  else if pk l.tail ≠ 120 then .bad l.tail 4
  else hex2P l.tail.tail
def bytesF : Nat → List UInt8 → List UInt8 → Tk (List UInt8)
  | 0, l, _ => .bad l 4
  | f + 1, l, acc => if pk l = 34 then .ok acc l.tail else match innerP l with
    | .bad a b => .bad a b
    | .ok c l' => bytesF f l' (acc ++ [c])
def bytesP (l : List UInt8) : Tk (List UInt8) := if pk l = 34 then bytesF (l.tail.length + 1) l.tail [] else .bad l 4
def shortP (l : List UInt8) : Tk (List UInt8) := match bytesP l with
  | .bad a b => .bad a b
  | .ok s l' => if 256 < s.length then .bad l 8 else .ok s l'
def firstB (c : UInt8) : Bool := decide (c.toNat = 123) || (decide (c.toNat = 60) || (decide (c.toNat = 91) || (decide (c.toNat = 116) || (decide (c.toNat = 102) || (decide (c.toNat = 34) || (decide (c.toNat = 45) || digB c))))))
def rowL {σ : Type} (item : σ → List UInt8 → Nat → Out σ) (e : UInt8) : Nat → σ → List UInt8 → Nat → Out σ
  | 0, _, l, _ => .bad l 4
  | f + 1, st, l, p => match item st l p with
    | .bad a b => .bad a b
    | .ok st' l' p' => if pk (skipL l') = e then .ok st' (skipL l').tail p' else if pk (skipL l') = 44 then rowL item e f st' (skipL l').tail p' else .bad (skipL l') 4
def rowP {σ : Type} (item : σ → List UInt8 → Nat → Out σ) (e : UInt8) (st : σ) (l : List UInt8) (p : Nat) : Out σ :=
  if pk (skipL l.tail) = e then .ok st (skipL l.tail).tail p else rowL item e ((skipL l.tail).length + 1) st (skipL l.tail) p
def listI (doc : List UInt8 → Nat → Out D) (ls : List D) (l : List UInt8) (p : Nat) : Out (List D) := match doc l p with
  | .bad a b => .bad a b
  | .ok d l' p' => .ok (ls ++ [d]) l' p'
def hasB (ks : List ByteArray) (s : ByteArray) : Bool := match ks[placeOf ks s]? with
  | some k => k.toList == s.toList
  | none => false
def insK {α : Type} (l : List α) (i : Nat) (x : α) : List α := l.take i ++ x :: l.drop i
def keyI (doc : List UInt8 → Nat → Out D) (key : List UInt8 → Tk (List UInt8)) (sign : UInt8) (st : List ByteArray × List D) (l : List UInt8) (p : Nat) : Out (List ByteArray × List D) :=
  match key (skipL l) with
  | .bad a b => .bad a b
  | .ok k l1 =>
    if hasB st.1 ⟨k.toArray⟩ = true then .bad (skipL l) 5
    else if pk (skipL l1) = sign then (match doc (skipL l1).tail p with
      | .bad a b => .bad a b
      | .ok d l2 p' => .ok (insK st.1 (placeOf st.1 ⟨k.toArray⟩) ⟨k.toArray⟩, insK st.2 (placeOf st.1 ⟨k.toArray⟩) d) l2 p')
    else .bad (skipL l1) 4
def keyedP (doc : List UInt8 → Nat → Out D) (key : List UInt8 → Tk (List UInt8)) (kind : Int) (e sign : UInt8) (l : List UInt8) (p : Nat) : Out D :=
  match rowP (keyI doc key sign) e ([], []) l p with
  | .bad a b => .bad a b
  | .ok st l' p' => .ok (.mk kind 0 ⟨#[]⟩ st.1 st.2) l' p'
def listP (doc : List UInt8 → Nat → Out D) (l : List UInt8) (p : Nat) : Out D :=
  match rowP (listI doc) 93 [] l p with
  | .bad a b => .bad a b
  | .ok ls l' p' => .ok (.mk 3 0 ⟨#[]⟩ [] ls) l' p'
def partP (doc : List UInt8 → Nat → Out D) (l : List UInt8) (p : Nat) : Out D :=
  if pk l = 123 then keyedP doc nameP 1 125 61 l p
  else if pk l = 60 then keyedP doc shortP 2 62 58 l p
  else if pk l = 91 then listP doc l p
  else if pk l = 116 then (match wordP [116, 114, 117, 101] l with
    | .bad a b => .bad a b
    | .ok _ l' => .ok (.mk 5 1 ⟨#[]⟩ [] []) l' p)
  else if pk l = 102 then (match wordP [102, 97, 108, 115, 101] l with
    | .bad a b => .bad a b
    | .ok _ l' => .ok (.mk 5 0 ⟨#[]⟩ [] []) l' p)
  else if pk l = 34 then (match shortP l with
    | .bad a b => .bad a b
    | .ok s l' => .ok (.mk 6 0 ⟨s.toArray⟩ [] []) l' p)
  else (match numberP l with
    | .bad a b => .bad a b
    | .ok n l' => .ok (.mk 4 n ⟨#[]⟩ [] []) l' p)
/-- A document that may be n levels deep: what is left of its text, and how many parts had begun. -/
def docP : Nat → List UInt8 → Nat → Out D
  | 0, l, _ => if firstB (pk (skipL l)) = false then .bad (skipL l) 4 else .bad (skipL l) 6
  | n + 1, l, p => if firstB (pk (skipL l)) = false then .bad (skipL l) 4 else if 512 < p + 1 then .bad (skipL l) 2 else partP (docP n) (skipL l) (p + 1)
/-- What a whole text tells. -/
def readP (s : List UInt8) : Tk D := match docP 12 s 0 with
  | .bad l e => .bad l e
  | .ok d l _ => if skipL l = [] then .ok d [] else .bad (skipL l) 4
def unqP (s : List UInt8) : Option (List UInt8) := match bytesP s with
  | .bad _ _ => none
  | .ok v l => if l = [] then some v else none
def numP (s : List UInt8) : Option Int := match numberP s with
  | .bad _ _ => none
  | .ok v l => if l = [] then some v else none

-- the law's own case
def resD : Tk D → Option (D × Nat) := fun t => match t with | .ok d l => some (d, l.length) | .bad _ _ => none
def resE : Tk D → Option (Nat × Nat) := fun t => match t with | .ok _ _ => none | .bad l e => some (l.length, e)
theorem own1 : readP [123, 32, 98, 32, 61, 32, 91, 49, 44, 45, 50, 93, 44, 32, 97, 32, 61, 32, 60, 34, 120, 34, 58, 116, 114, 117, 101, 62, 32, 125] = .ok (.mk 1 0 ⟨#[]⟩ [⟨#[97]⟩, ⟨#[98]⟩] [.mk 2 0 ⟨#[]⟩ [⟨#[120]⟩] [.mk 5 1 ⟨#[]⟩ [] []], .mk 3 0 ⟨#[]⟩ [] [.mk 4 1 ⟨#[]⟩ [] [], .mk 4 (-2) ⟨#[]⟩ [] []]]) [] := by kernel_rfl
theorem own2 : readP [91, 49, 44, 32, 48, 50, 93] = .bad [50, 93] 4 := by kernel_rfl
theorem own3 : readP [123, 97, 32, 61, 32, 49, 44, 32, 97, 32, 61, 32, 50, 125] = .bad [97, 32, 61, 32, 50, 125] 5 := by kernel_rfl
end Go.Proofs.YtmnaaohhageihaaDoor
namespace Go.Proofs.YtmnaaohhageihaaDoor
open Go.RowKit

set_option maxHeartbeats 2000000 in
set_option maxRecDepth 100000 in
theorem search_has {ks : List ByteArray} {s : ByteArray} {v : Value} {w : World} {B : Nat} (hv : Strs w B v ks) (hr : Rising ks) (hn : ks.length ≤ 10000) :
    Calls Tryd.prog 58 #[v, .string s] w fun e w' => e = .returned (.tuple #[.int .i64 (placeOf ks s : Nat), .bool (hasB ks s)]) ∧ w = w' := by
  obtain ⟨A, c, rfl, hc, hcells⟩ := hv
  have HC := Lib.hid hcells; have HR := Lib.hid hr
  have hp := placeOf_le ks s
  obtain ⟨p, hpe⟩ : ∃ p, p = placeOf ks s := ⟨_, rfl⟩
  have HP := Lib.hid hpe
  obtain ⟨fb, hfb⟩ : ∃ fb, fb = hasB ks s := ⟨_, rfl⟩
  have HFB : Hid ((∀ h : p < ks.length, fb = (ks[p].toList == s.toList)) ∧ (¬ p < ks.length → fb = false)) := Lib.hid (by
    subst hpe; subst hfb
    refine ⟨fun h => ?_, fun h => ?_⟩
    · unfold hasB; rw [List.getElem?_eq_getElem h]
    · unfold hasB; rw [List.getElem?_eq_none (by omega)])
  rw [← hfb]
  rw [← hpe] at hp ⊢
  clear hcells hr hpe hfb
  go_enter Tryd.func58, Tryd.ntmps58
  go_wp2_with fail
  go_loop [7, 8] (fun a b => ∃ i j : Nat, i ≤ p ∧ p ≤ j ∧ j ≤ ks.length ∧ a = .int .i64 i ∧ b = .int .i64 j) (fun a b => (intOf b).toNat - (intOf a).toNat)
  case atStart => exact ⟨0, ks.length, Nat.zero_le _, hp, Nat.le_refl _, rfl, rfl⟩
  case round =>
    obtain ⟨i, j, h1, h2, h3, rfl, rfl⟩ := hrel
    by_cases hlt : i < j
    · have hw : IntKind.i64.wrap ((i : Int) + (j : Int)) = (i : Int) + (j : Int) := IntWalk.i64_in _ (by omega)
      have hlt2 : (i : Int) < (j : Int) := by omega
      obtain ⟨h, hh⟩ : ∃ h : Nat, h = (i + j) / 2 := ⟨_, rfl⟩
      have hhi : ((i : Int) + (j : Int)) / 2 = (h : Int) := by omega
      have hb1 : i ≤ h := by omega
      have hb2 : h < j := by omega
      have hlen : h < ks.length := by omega
      have hb3 : (h : Int) < (ks.length : Int) := by omega
      have hb4 : (0 : Int) ≤ (h : Int) := by omega
      obtain ⟨b, off, rfl, _, hcx⟩ := HC.out (by omega)
      have gx := hcx h hlen
      have hls := less_place (s := s) HR.out h hlen
      rw [← HP.out] at hls
      clear hcx hh
      by_cases hl : h < p
      · have hls' : Op.bytesLess (ks[h]'hlen).toList s.toList = true := by rw [hls]; simp [hl]
        clear hls
        go_wp2_with (go_at_call 72; refine (less_any _ _ _).mono ?_; rintro e w' ⟨rfl, rfl⟩)
        go_round
        case rel => exact ⟨h + 1, j, by omega, h2, h3, by go_num, rfl⟩
        case measure => simp [intOf]; omega
      · have hls' : Op.bytesLess (ks[h]'hlen).toList s.toList = false := by rw [hls]; simp [hl]
        clear hls
        go_wp2_with (go_at_call 72; refine (less_any _ _ _).mono ?_; rintro e w' ⟨rfl, rfl⟩)
        go_round
        case rel => exact ⟨i, h, h1, by omega, by omega, rfl, rfl⟩
        case measure => simp [intOf]; omega
    · obtain rfl : i = p := by omega
      obtain rfl : j = i := by omega
      clear hlt
      by_cases hend : j < ks.length
      · obtain ⟨b, off, rfl, _, hcx⟩ := HC.out (by omega)
        have gx := hcx j hend
        have hfe := HFB.out.1 hend
        have hb3 : (j : Int) < (ks.length : Int) := by omega
        have hb4 : (0 : Int) ≤ (j : Int) := by omega
        clear hcx
        cases he : (ks[j].toList == s.toList) with
        | true =>
          rw [he] at hfe
          have HFE := Lib.hid hfe
          clear hfe
          go_wp2_with (go_at_call 73; refine (isNaN2_any _ _).mono ?_; rintro e w' ⟨rfl, rfl⟩)
          go_ret2
          exact ⟨by rw [HFE.out]; rfl, rfl⟩
        | false =>
          rw [he] at hfe
          have HFE := Lib.hid hfe
          clear hfe
          go_wp2_with (go_at_call 73; refine (isNaN2_any _ _).mono ?_; rintro e w' ⟨rfl, rfl⟩)
          go_ret2
          exact ⟨by rw [HFE.out]; rfl, rfl⟩
      · have hb3 : ¬ (j : Int) < (ks.length : Int) := by omega
        have HFE := Lib.hid (HFB.out.2 hend)
        go_wp2_with fail
        go_ret2
        exact ⟨by rw [HFE.out]; rfl, rfl⟩
end Go.Proofs.YtmnaaohhageihaaDoor
