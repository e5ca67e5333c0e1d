/-
  The reader: a document is done, and stands in the result's variable.
-/
import Derived.Test.YtmnaaohhageihaaDoorCPDoc
namespace Go.Proofs.YtmnaaohhageihaaDoor
open Go.RowKit

theorem DocTo.failed {w w' : World} {r k er : Nat} {s : ByteArray} {t : Out D} {l : List UInt8} (ht : t = .bad l er) (hk : k = s.size - l.length) (h : Turned w w' [] r) : DocTo w r s t (.panicked [{ v := faultV (k : Int) er, recovered := false }]) w' := by
  subst ht; subst hk; exact ⟨rfl, h⟩
theorem turned_out {w w3 wr X : World} {box r res : Nat} (h : Turned w3 wr [r] box) (hres : w.heap.size ≤ res) (hbx : w.heap.size ≤ box) (hb : Below w.heap.size w w3) (hX : ∀ k, k ≠ res → X.heap[k]? = wr.heap[k]?) (hXs : X.heap.size = wr.heap.size) (hXo : X.os = wr.os ∧ X.tape = wr.tape ∧ X.output = wr.output) : Turned w X [] r := by
  have hz := hb.size
  have hz3 := h.size
  refine ⟨hXo.1.trans (h.os.trans hb.os), hXo.2.1.trans (h.tape.trans hb.tape), hXo.2.2.trans (h.output.trans hb.output), by omega, fun k hk _ hk2 => ?_⟩
  exact (hX k (by omega)).trans ((h.block k (by omega) (by simpa using hk2) (by omega)).trans (hb.block k hk))
theorem pdoc_out {w w3 wr X : World} {box r res p : Nat} {kd nm : Int} {st s : ByteArray} {xs : List ByteArray} {ls : List D} {v3 v4 : Value} {cs : List Value} {F : List Nat} {l : List UInt8} {t : Out D} (h : PDoc w3 wr box r kd nm st xs ls v3 v4 cs F) (hres : w.heap.size ≤ res) (hres3 : res < w3.heap.size) (hbx : w.heap.size ≤ box) (hb : Below w.heap.size w w3) (hr : r < w.heap.size)
    (hrd : RdL wr r s l p) (ht : t = .ok (.mk kd nm st xs ls) l p) (hX : ∀ k, k ≠ res → X.heap[k]? = wr.heap[k]?) (hXs : X.heap.size = wr.heap.size) (hXo : X.os = wr.os ∧ X.tape = wr.tape ∧ X.output = wr.output) :
    DocTo w r s t (.returned (.agg #[.int .i64 kd, .int .i64 nm, .string st, v3, v4])) X := by
  have hz := hb.size
  have l1 := h.o3.lt
  have l2 := h.o4.lt
  have l3 := h.ok.lt
  subst ht
  refine ⟨_, _, _, _, _, _, rfl, OwnIn.make (d := .mk kd nm st xs ls)
    (by exact ownsRow_base (ownsRow_same h.o3 fun k hk => hX k (by have := (l1 k (blk_mem.1 hk)).1; omega)) (by omega))
    (by exact ownsRow_base (ownsRow_same h.o4 fun k hk => hX k (by have := (l2 k (blk_mem.1 hk)).1; omega)) (by omega))
    (h.ok.same (by omega) fun k hk => hX k (by have := (l3 k hk).1; omega)), h.nd, hrd.kept fun k hk => hX k (by omega), turned_out h.t hres hbx hb hX hXs hXo⟩
end Go.Proofs.YtmnaaohhageihaaDoor
