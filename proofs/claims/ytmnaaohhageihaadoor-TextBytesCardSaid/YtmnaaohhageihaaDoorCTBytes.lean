/-
  TextBytes: any bytes, quoted, read as they were; what is quoted is of printable bytes, and no two bytes' texts are quoted alike.
-/
import Derived.Test.YtmnaaohhageihaaDoorCTxSmall
import Derived.Test.YtmnaaohhageihaaDoorCQuoteQ
namespace Go.Proofs.YtmnaaohhageihaaDoor
open Go.RowKit

theorem bytes_inj {a b : ByteArray} (h : a.data.toList = b.data.toList) : a = b := by
  cases a; cases b; simp only [ByteArray.mk.injEq]; exact Array.toList_inj.1 h
def quoteB (s : ByteArray) : ByteArray := ⟨(quoteL s.data.toList).toArray⟩
theorem quoteB_inj {a b : ByteArray} : quoteB a = quoteB b ↔ a = b := by
  refine ⟨fun h => bytes_inj (quoteL_inj ?_), fun h => by rw [h]⟩
  have := congrArg (fun x : ByteArray => x.data.toList) h
  simpa [quoteB] using this
theorem quoteB_size {s : ByteArray} {n : Nat} (h : s.size ≤ n) : (quoteB s).size ≤ 4 * n + 2 := by
  have h1 := quoteI_len s.data.toList
  have h2 : (quoteB s).size = (quoteL s.data.toList).length := by show (quoteL s.data.toList).toArray.size = _; simp
  have h3 : s.data.toList.length = s.size := rfl
  rw [h2]; simp only [quoteL, List.length_cons, List.length_append, List.length_nil]; omega
theorem quoteB_plain (s : ByteArray) (k : Nat) (h : k < (quoteB s).size) : 32 ≤ ((quoteB s)[k]).toNat ∧ ((quoteB s)[k]).toNat ≤ 126 := by
  refine quoteL_plain s.data.toList _ ?_
  exact Array.mem_def.1 (Array.getElem_mem (xs := (quoteB s).data) h)
theorem unq_quoteB (s : ByteArray) : unqP (quoteB s).data.toList = some s.data.toList := unqP_quote _
theorem unquoteB {w : World} {s : ByteArray} (hs : (quoteB s).size ≤ 1000000) (hg : TG w) : Calls Tryd.prog 7 #[.string (quoteB s)] w fun e w' => e = .returned (.tuple #[.string s, .bool true]) ∧ Below w.heap.size w w' := by
  refine Calls.mono (Unquote_any (w := w) (quoteB s) hs hg) ?_
  intro e w' h
  rw [unq_quoteB] at h
  exact h
set_option maxHeartbeats 4000000 in
set_option maxRecDepth 100000 in
theorem tbytes_law (a b : ByteArray) {w : World} (hg : TG w) : Calls Tryd.prog 3 #[.string a, .string b] w fun e w' => e = .returned (.bool true) ∧ Below w.heap.size w w' := by
  have HG := Lib.hid hg
  clear hg
  by_cases hab : a.size ≤ 500 ∧ b.size ≤ 500
  · obtain ⟨ha, hb⟩ := hab
    go_enter Tryd.func3, Tryd.ntmps3
    go_wp2_with fail
    refine (tx_small HG.out).mono ?_
    rintro e w1 ⟨rfl, hb1⟩
    have HB1 := Lib.hid hb1
    have HG1 := Lib.hid (HG.out.next hb1)
    clear hb1
    go_wp2_with fail
    refine (Quote_any a w1 (by omega)).mono ?_
    rintro e w2 ⟨rfl, hb2⟩
    have HB2 := Lib.hid (HB1.out.trans (hb2.mono HB1.out.size))
    have HG2 := Lib.hid (HG1.out.next hb2)
    clear hb2
    rw [show (⟨(quoteL a.data.toList).toArray⟩ : ByteArray) = quoteB a from rfl]
    obtain ⟨q, hq⟩ : ∃ q, q = quoteB a := ⟨_, rfl⟩
    have hqs : q.size ≤ 2002 := by rw [hq]; exact quoteB_size ha
    have HP : Hid (∀ (k : Nat) (h : k < q.size), 32 ≤ (q[k]).toNat ∧ (q[k]).toNat ≤ 126) := Lib.hid (by subst hq; exact quoteB_plain a)
    have HU : Hid (∀ W, TG W → Calls Tryd.prog 7 #[.string q] W fun e w' => e = .returned (.tuple #[.string a, .bool true]) ∧ Below W.heap.size W w') := Lib.hid (fun W hW => by subst hq; exact unquoteB (by omega) hW)
    rw [← hq]
    have HQ := Lib.hid hq
    clear hq
    go_wp2_with fail
    refine (HU.out _ HG2.out).mono ?_
    rintro e w3 ⟨rfl, hb3⟩
    have HB3 := Lib.hid (HB2.out.trans (hb3.mono HB2.out.size))
    clear hb3
    go_wp2_with fail
    go_loop [9] (fun i => ∃ k : Nat, k ≤ q.size ∧ i = .int .i64 k) (fun i => q.size - (intOf i).toNat)
    case atStart => exact ⟨0, Nat.zero_le _, rfl⟩
    case round =>
      obtain ⟨k, hk, rfl⟩ := hrel
      by_cases hlt : k < q.size
      · obtain ⟨p1, p2⟩ := HP.out k hlt
        obtain ⟨c, hc⟩ : ∃ c, c = q[k] := ⟨_, rfl⟩
        go_wp2_with fail
        go_round
        case rel => exact ⟨k + 1, by omega, by go_num⟩
        case measure => simp [intOf]; omega
      · have haa : (a.toList == a.toList) = true := by simp
        go_wp2_with fail
        refine (Quote_any b w3 (by omega)).mono ?_
        rintro e w4 ⟨rfl, hb4⟩
        rw [show (⟨(quoteL b.data.toList).toArray⟩ : ByteArray) = quoteB b from rfl]
        have HB4 := Lib.hid (HB3.out.trans (hb4.mono HB3.out.size))
        clear hb4
        by_cases he : a = b
        · have e1 : (q.toList == (quoteB b).toList) = true := by rw [HQ.out, he]; simp
          have e2 : (a.toList == b.toList) = true := by rw [he]; simp
          clear he
          go_wp2_with fail
          go_ret
          exact ⟨rfl, HB4.out⟩
        · have e1 : (q.toList == (quoteB b).toList) = false := by
            rw [beq_eq_false_iff_ne, HQ.out]
            intro hh
            rw [ByteArray.toList_eq, ByteArray.toList_eq] at hh
            exact he (quoteB_inj.1 (bytes_inj hh))
          have e2 : (a.toList == b.toList) = false := by
            rw [beq_eq_false_iff_ne]
            intro hh
            rw [ByteArray.toList_eq, ByteArray.toList_eq] at hh
            exact he (bytes_inj hh)
          clear he
          go_wp2_with fail
          go_ret
          exact ⟨rfl, HB4.out⟩
  · have hab' : 500 < a.size ∨ 500 < b.size := by omega
    clear hab
    by_cases ha : 500 < a.size
    · clear hab'
      go_enter Tryd.func3, Tryd.ntmps3
      go_wp2_with fail
      refine (tx_small HG.out).mono ?_
      rintro e w1 ⟨rfl, hb1⟩
      have HB1 := Lib.hid hb1
      clear hb1
      go_wp2_with fail
      go_ret
      exact ⟨rfl, HB1.out⟩
    · have hb : 500 < b.size := by omega
      clear hab'
      go_enter Tryd.func3, Tryd.ntmps3
      go_wp2_with fail
      refine (tx_small HG.out).mono ?_
      rintro e w1 ⟨rfl, hb1⟩
      have HB1 := Lib.hid hb1
      clear hb1
      go_wp2_with fail
      go_ret
      exact ⟨rfl, HB1.out⟩
end Go.Proofs.YtmnaaohhageihaaDoor
