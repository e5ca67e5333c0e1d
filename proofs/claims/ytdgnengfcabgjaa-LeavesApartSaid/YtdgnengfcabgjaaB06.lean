/-
  DERIVED: THE SHELF's CONTRACTS AT THIS DUMP, IN PLAIN WORDS (tools/lay-plain.mjs out of 'TryShelf.lean', which tools/lay-shelf.mjs wrote): THE SAME DECLARATIONS UNDER THE SAME NAMES: 'import', 'namespace', 'open', 'def', 'theorem' AND NOTHING ELSE: no command of the shelf's: FOR A HAND-IN. Each laying: the table of numbers ('.._ren') and one theorem, a field a fact of the dump's own or the kernel's comparison; each contract: ONE APPLICATION.
  slices.insertionSortCmpFunc at leaves: the library's contract, laid.
-/
import Derived.Shelf.Small.Strs
import Derived.Shelf.Small.Wraps
import Derived.Ground.Names2Prog
import Derived.Shelf.Slices.SearchI
import Derived.Test.YtdgnengfcabgjaaProg
import Derived.Shelf.SlSortCmp.KitK
namespace Go.Proofs
open Go.Shelf
def Try.lays213_ren : Go.Shelf.Ren := ⟨fun | 213 => 89 | 265 => 96 | n => n, fun | 9 => 9 | 3 => 3 | n => n, fun | n => n⟩
theorem Try.lays213 : Go.Proofs.Lays.n213 Try.prog Try.lays213_ren := {
  mixed := by kernel_rfl
  f213 := Try.func89.trans (congrArg some (by kernel_rfl))
  f265 := Try.func96.trans (congrArg some (by kernel_rfl))
  t3 := Try.underlying3
  a3 := Try.isAgg3
  z3 := Try.sizeOf3
  v3 := Try.zeroValue3
  t9 := Try.underlying9
  a9 := Try.isAgg9
  z9 := Try.sizeOf9
  v9 := Try.zeroValue9 }
open Go.RowKit in
/-- internal/bytealg.CompareString (what strings.Compare calls): IT RETURNS 'Lib.compareBytes a b'; the world is as it was. (LAID: no walk: one application.) -/
theorem Try.bytealg_CompareString (a b : ByteArray) (w : World) :
    Calls Try.prog 89 #[.string a, .string b] w fun e w' => e = .returned (.int .i64 (Lib.compareBytes a.data.toList b.data.toList)) ∧ w' = w := Any.bytealg_CompareString Try.lays213 a b w
def Try.lays106_ren : Go.Shelf.Ren := ⟨fun | 106 => 77 | 213 => 89 | 265 => 96 | n => n, fun | 9 => 9 | 3 => 3 | n => n, fun | n => n⟩
theorem Try.lays106 : Go.Proofs.Lays.n106 Try.prog Try.lays106_ren := {
  mixed := by kernel_rfl
  f106 := Try.func77.trans (congrArg some (by kernel_rfl))
  f213 := Try.func89.trans (congrArg some (by kernel_rfl))
  f265 := Try.func96.trans (congrArg some (by kernel_rfl))
  t3 := Try.underlying3
  a3 := Try.isAgg3
  z3 := Try.sizeOf3
  v3 := Try.zeroValue3
  t9 := Try.underlying9
  a9 := Try.isAgg9
  z9 := Try.sizeOf9
  v9 := Try.zeroValue9 }
open Go.RowKit in
/-- strings.Compare: "Compare returns an integer comparing two strings lexicographically. The result will be 0 if a == b, -1 if a < b, and +1 if a > b.": IT RETURNS 'Lib.compareBytes a b'; the world is as it was. (LAID: no walk: one application.) -/
theorem Try.strings_Compare (a b : ByteArray) (w : World) :
    Calls Try.prog 77 #[.string a, .string b] w fun e w' => e = .returned (.int .i64 (Lib.compareBytes a.data.toList b.data.toList)) ∧ w' = w := Any.strings_Compare Try.lays106 a b w
def Try.lays215_ren : Go.Shelf.Ren := ⟨fun | 215 => 93 | n => n, fun | 3 => 3 | 4 => 4 | n => n, fun | n => n⟩
theorem Try.lays215 : Go.Proofs.Lays.n215 Try.prog Try.lays215_ren := {
  mixed := by kernel_rfl
  f215 := Try.func93.trans (congrArg some (by kernel_rfl))
  t3 := Try.underlying3
  a3 := Try.isAgg3
  z3 := Try.sizeOf3
  v3 := Try.zeroValue3
  t4 := Try.underlying4
  a4 := Try.isAgg4
  z4 := Try.sizeOf4
  v4 := Try.zeroValue4 }
open Go.RowKit in
/-- cmp.isNaN at int: 'x != x': false. (LAID: no walk: one application.) -/
theorem Try.cmp_isNaN_int (x : Int) (w : World) :
    Calls Try.prog 93 #[.int .i64 x] w fun e w' => e = .returned (.bool false) ∧ w' = w := Any.cmp_isNaN_int Try.lays215 x w
def Try.lays122_ren : Go.Shelf.Ren := ⟨fun | 122 => 87 | 215 => 93 | n => n, fun | 3 => 3 | 4 => 4 | n => n, fun | n => n⟩
theorem Try.lays122 : Go.Proofs.Lays.n122 Try.prog Try.lays122_ren := {
  mixed := by kernel_rfl
  f122 := Try.func87.trans (congrArg some (by kernel_rfl))
  f215 := Try.func93.trans (congrArg some (by kernel_rfl))
  t3 := Try.underlying3
  a3 := Try.isAgg3
  z3 := Try.sizeOf3
  v3 := Try.zeroValue3
  t4 := Try.underlying4
  a4 := Try.isAgg4
  z4 := Try.sizeOf4
  v4 := Try.zeroValue4 }
open Go.RowKit in
/-- cmp.Compare at int: "Compare returns -1 if x is less than y, 0 if x equals y, +1 if x is greater than y.": IT RETURNS 'Lib.compareInt x y'; the world is as it was. (LAID: no walk: one application.) -/
theorem Try.cmp_Compare_int (x y : Int) (w : World) :
    Calls Try.prog 87 #[.int .i64 x, .int .i64 y] w fun e w' => e = .returned (.int .i64 (Lib.compareInt x y)) ∧ w' = w := Any.cmp_Compare_int Try.lays122 x y w
def Try.laysNm237_ren : Go.Shelf.Ren := ⟨fun | 37 => 93 | n => n, fun | 3 => 3 | 4 => 4 | n => n, fun | n => n⟩
theorem Try.laysNm237 : Go.Proofs.Lays2.n37 Try.prog Try.laysNm237_ren := {
  mixed := by kernel_rfl
  f37 := Try.func93.trans (congrArg some (by kernel_rfl))
  t3 := Try.underlying3
  a3 := Try.isAgg3
  z3 := Try.sizeOf3
  v3 := Try.zeroValue3
  t4 := Try.underlying4
  a4 := Try.isAgg4
  z4 := Try.sizeOf4
  v4 := Try.zeroValue4 }
open Go.RowKit Go.Lib in
/-- cmp.isNaN[int]: 'x != x': false. (LAID: no walk: one application.) -/
theorem Try.cmp_isNaN_int2 (x : Int) (w : World) :
    Calls Try.prog 93 #[.int .i64 x] w fun e w' => e = .returned (.bool false) ∧ w' = w := Any.cmp_isNaN_int2 Try.laysNm237 x w
end Go.Proofs
namespace Go.Proofs.Ytdgnengfcabgjaa
open Go.RowKit Go.Lib Go.Sort Go.Shelf

def leafRen : Ren := ⟨fun | 20 => 90 | n => n, fun | 24 => 42 | 22 => 26 | 3 => 3 | 25 => 60 | 4 => 4 | 0 => 0 | n => n, fun | n => n⟩
theorem leaf20 : SlLaysF0.n20 Try.prog leafRen := {
  mixed := by kernel_rfl
  f20 := ⟨Try.f90.name, by decide, Try.func90.trans (congrArg some (by kernel_rfl))⟩
  t0 := Try.underlying0
  a0 := Try.isAgg0
  z0 := Try.sizeOf0
  v0 := Try.zeroValue0
  t3 := Try.underlying3
  a3 := Try.isAgg3
  z3 := Try.sizeOf3
  v3 := Try.zeroValue3
  t4 := Try.underlying4
  a4 := Try.isAgg4
  z4 := Try.sizeOf4
  v4 := Try.zeroValue4
  t22 := Try.underlying26
  a22 := Try.isAgg26
  z22 := Try.sizeOf26
  v22 := Try.zeroValue26
  t25 := Try.underlying60
  a25 := Try.isAgg60
  z25 := Try.sizeOf60
  v25 := Try.zeroValue60 }
/-- What the sort's walks ask of a program: the family's bodies, and their types; elements of k cells. -/
structure LfP (P : Program) (k : Nat) : Prop where
  mixed : P.follows .mixedOrders = true
  ins : SlLaysF0.n20 P leafRen
  t0 : P.underlying 0 = some (TypeDesc.tuple #[])
  a0 : ∀ w, (isAgg 0).run P w = .ok false w
  z0 : ∀ w, (Go.sizeOf 0).run P w = .ok 1 w
  v0 : ∀ w, (zeroValue 0).run P w = .ok (Value.tuple #[]) w
  t3 : P.underlying 3 = some (TypeDesc.int IntKind.i64)
  a3 : ∀ w, (isAgg 3).run P w = .ok false w
  z3 : ∀ w, (Go.sizeOf 3).run P w = .ok 1 w
  v3 : ∀ w, (zeroValue 3).run P w = .ok (Value.int IntKind.i64 0) w
  t4 : P.underlying 4 = some (TypeDesc.bool)
  a4 : ∀ w, (isAgg 4).run P w = .ok false w
  z4 : ∀ w, (Go.sizeOf 4).run P w = .ok 1 w
  v4 : ∀ w, (zeroValue 4).run P w = .ok (Value.bool false) w
  tS : P.underlying 26 = some (TypeDesc.slice 42)
  aS : ∀ w, (isAgg 26).run P w = .ok false w
  zS : ∀ w, (Go.sizeOf 26).run P w = .ok 1 w
  vS : ∀ w, (zeroValue 26).run P w = .ok (Value.slice none 0 0) w
  tF : P.underlying 60 = some (TypeDesc.func #[42, 42] #[3] false)
  aF : ∀ w, (isAgg 60).run P w = .ok false w
  zF : ∀ w, (Go.sizeOf 60).run P w = .ok 1 w
  vF : ∀ w, (zeroValue 60).run P w = .ok (Value.nilFunc) w
  tU : P.underlying 96 = some (TypeDesc.int IntKind.u64)
  aU : ∀ w, (isAgg 96).run P w = .ok false w
  zU : ∀ w, (Go.sizeOf 96).run P w = .ok 1 w
  vU : ∀ w, (zeroValue 96).run P w = .ok (Value.int IntKind.u64 0) w
  aE : ∀ w, (isAgg 42).run P w = .ok true w
  zE : ∀ w, (Go.sizeOf 42).run P w = .ok k w
  fSwp : P.funcs[100]? = some Try.f100
  fRot : P.funcs[97]? = some Try.f97
  fSym : P.funcs[91]? = some Try.f91
  fStb : P.funcs[82]? = some Try.f82
  eIns : ∀ args w, (callFunc 90 args).run P w = .ok (.enter 90 args) w
  eSwp : ∀ args w, (callFunc 100 args).run P w = .ok (.enter 100 args) w
  eRot : ∀ args w, (callFunc 97 args).run P w = .ok (.enter 97 args) w
  eSym : ∀ args w, (callFunc 91 args).run P w = .ok (.enter 91 args) w
  eStb : ∀ args w, (callFunc 82 args).run P w = .ok (.enter 82 args) w
theorem lf_enters {f : FuncId} {B : Func} {c : Code} (hf : Try.prog.funcs[f]? = some B) (hn : (B.name == "runtime.NumGoroutine") = false) (hb : B.body = some c) : ∀ args w, (callFunc f args).run Try.prog w = .ok (.enter f args) w := enters_of hf hn hb
theorem lfP : LfP Try.prog 6 := {
  mixed := by kernel_rfl
  ins := leaf20
  t0 := Try.underlying0
  a0 := Try.isAgg0
  z0 := Try.sizeOf0
  v0 := Try.zeroValue0
  t3 := Try.underlying3
  a3 := Try.isAgg3
  z3 := Try.sizeOf3
  v3 := Try.zeroValue3
  t4 := Try.underlying4
  a4 := Try.isAgg4
  z4 := Try.sizeOf4
  v4 := Try.zeroValue4
  tS := Try.underlying26
  aS := Try.isAgg26
  zS := Try.sizeOf26
  vS := Try.zeroValue26
  tF := Try.underlying60
  aF := Try.isAgg60
  zF := Try.sizeOf60
  vF := Try.zeroValue60
  tU := Try.underlying96
  aU := Try.isAgg96
  zU := Try.sizeOf96
  vU := Try.zeroValue96
  aE := Try.isAgg42
  zE := Try.sizeOf42
  fSwp := Try.func100
  fRot := Try.func97
  fSym := Try.func91
  fStb := Try.func82
  eIns := lf_enters Try.func90 (by decide) rfl
  eSwp := lf_enters Try.func100 (by decide) rfl
  eRot := lf_enters Try.func97 (by decide) rfl
  eSym := lf_enters Try.func91 (by decide) rfl
  eStb := lf_enters Try.func82 (by decide) rfl }
variable {α : Type} [Inhabited α]
theorem lf_inner_size (lt : α → α → Bool) (a : Nat) : ∀ (j : Nat) (d : Array α), (insInner lt a j d).size = d.size
  | 0, d => rfl
  | j + 1, d => by
    unfold insInner
    split
    · rw [lf_inner_size lt a j, size_swp]
    · rfl
theorem lf_outer_size (lt : α → α → Bool) (a b : Nat) : ∀ (n i : Nat) (d : Array α), b - i ≤ n → (insOuter lt a b i d).size = d.size
  | 0, i, d, h => by rw [insOuter_stop _ _ _ _ _ (by omega)]
  | n + 1, i, d, h => by
    by_cases hi : i < b
    · rw [insOuter_go _ _ _ _ _ hi, lf_outer_size lt a b n (i + 1) _ (by omega), lf_inner_size]
    · rw [insOuter_stop _ _ _ _ _ hi]
theorem lf_ins_size (lt : α → α → Bool) (d : Array α) (a b : Nat) : (Sort.insertionSort lt d a b).size = d.size := lf_outer_size lt a b (b - (a + 1)) (a + 1) d (Nat.le_refl _)
theorem leafIns {P : Program} {zz : Nat} (LF : LfP P zz) (enc : α → List Value) (cf : α → α → Int) (g : Nat) (cb : Array Value) (blk off cap a b : Nat) (d0 d : Array α) (w0 w : World)
    (eg : ∀ args w, (callFunc g args).run P w = .ok (.enter g args) w) (hcmp : CmpLays P g cb enc zz cf blk off d0.size w0) (R : RowK enc zz w0 blk off d0) (hs : d0.size = d.size) (S : SWK enc zz w0 blk off d w) (hab : a ≤ b) (hb : b ≤ d.size) (hsz : d.size < 4611686018427387904) :
    Calls P 90 #[.slice (some ⟨blk, off, none⟩) d.size cap, .int .i64 a, .int .i64 b, .func (.func g) #[] cb] w fun e w' =>
      e = .returned (.tuple #[]) ∧ SWK enc zz w0 blk off (Sort.insertionSort (ltOf cf) d a b) w' := by
  obtain ⟨m, os, rfl⟩ := S
  have hH : HoldsK enc zz (sortWorldK enc zz w0 blk off m d os) blk off d := holdsK_sortWorldK_c enc zz w0 blk off d0 d m os R.hH R.hblk hs.symm
  have hblk2 : blk < (sortWorldK enc zz w0 blk off m d os).heap.size := Nat.lt_of_lt_of_le R.hblk (size_sortWorldK_c enc zz w0 blk off m d os)
  have hc2 : CmpLays P g cb enc zz cf blk off d.size (sortWorldK enc zz w0 blk off m d os) := fun m' os' dk hdk x y => by
    obtain ⟨m2, os2, h2⟩ := (SWK.on (h := ⟨m, os, rfl⟩) R.hblk m' dk os' hdk : SWK enc zz w0 blk off dk _)
    rw [h2]
    exact hcmp m2 os2 dk (hdk.trans hs.symm) x y
  refine (AnyQ.insertionSortCmpFunc LF.ins zz LF.aE LF.zE enc R.hk R.h1 cf g cb blk off cap a b d _ eg hc2 hH hblk2 hab hb hsz).mono ?_
  rintro e w' ⟨rfl, n, os', rfl⟩
  exact ⟨rfl, SWK.on (h := ⟨m, os, rfl⟩) R.hblk n _ os' (lf_ins_size _ _ _ _)⟩
end Go.Proofs.Ytdgnengfcabgjaa
