import Derived.Test.YtjcejjejlekelaaGreatDoorVSameT
import Derived.Test.YtjcejjejlekelaaGreatDoorOrders
import Derived.Deep.LoopGhost
import Derived.Test.YtjcejjejlekelaaGreatDoorDecOne
import Derived.Test.YtjcejjejlekelaaGreatDoorVBase
import Derived.Test.YtjcejjejlekelaaGreatDoorVTextAll
import Derived.Test.YtjcejjejlekelaaGreatDoorVCopyAll
/- value.Same and value.Equal, walked. -/
/- value's makers of single values and of lists, walked; Get. -/
/- value.Get, walked. -/
namespace Go.Proofs.YtjcejjejlekelaaGreatDoor
open Go.RowKit

theorem cmp_self (l : List UInt8) : cmpI l l = 0 := by
  unfold cmpI tcmp
  simp
end Go.Proofs.YtjcejjejlekelaaGreatDoor
namespace Go.Proofs.YtjcejjejlekelaaGreatDoor
open Go.RowKit

/-- a value without parts -/
def leafT (k n : Int) (s : ByteArray) : VT := .mk k n s [] [] []
theorem hv_leaf (w : World) (k n : Int) (s : ByteArray) (hk : (Lit.int .i64 k).wf = true) (hn : (Lit.int .i64 n).wf = true) (hs : s.size ≤ maxLen) : HV w (leafT k n s) (.slice none 0 0) (.slice none 0 0) :=
  (hf_of (lo := 0) (m := 0) (hi := 0) hk hn hs (Nat.le_refl _) (Nat.le_refl _) (lf_nil w 0 0) (mf_nil w 0 0)).hv
theorem zero_leaf : zeroT = leafT 0 0 ⟨#[]⟩ := rfl
theorem intV_wf (l : List UInt8) : (Lit.int .i64 (intV l)).wf = true := by
  have h : -9223372036854775808 ≤ intV l ∧ intV l ≤ 9223372036854775807 := by
    unfold intV
    cases hb : intB l with
    | false => simp
    | true =>
      unfold intB at hb
      simp only [Bool.and_eq_true] at hb
      have h5 := hb.2
      cases hn : pNeg l with
      | true => rw [hn] at h5; simp at h5 ⊢; omega
      | false => rw [hn] at h5; simp at h5 ⊢; omega
  simp [Lit.wf, IntKind.min, IntKind.max, IntKind.signed, IntKind.bits]; omega
/-- a number made -/
def numR (s : ByteArray) : VT := if numB s.data.toList then (if intB s.data.toList then leafT 2 (intV s.data.toList) ⟨#[]⟩ else leafT 3 0 s) else zeroT
def numE (s : ByteArray) : Int := if numB s.data.toList then 0 else 1
def strR (s : ByteArray) : VT := if teI s = 0 then leafT 4 0 s else zeroT
def stampR (s : ByteArray) : VT := if stampB s then leafT 7 0 s else zeroT
def stampE (s : ByteArray) : Int := if stampB s then 0 else 1
theorem box_row {w w1 : World} {c : Array Value} {t : TypeId} (h : Below (w.alloc (.cells c t)).heap.size (w.alloc (.cells c t)) w1) : Row w1 w.heap.size t c.size := (Row.new w c t).onto (h.block _ (by simp))
/-- a callee that keeps a row that was there -/
theorem dint_above {P : Program} {f : FuncId} {args : Array Value} {w x : World} {v : Ending} {b m : Nat} {t : TypeId} (hx : Below w.heap.size w x) (hr : Row x b t m) (h : Below w.heap.size w x → Calls P f args x fun e w' => e = v ∧ Below x.heap.size x w') : Calls P f args x fun e w' => e = v ∧ Below w.heap.size w w' ∧ Row w' b t m :=
  (h hx).mono fun _ _ ⟨he, hb⟩ => ⟨he, vonto hx hb, hr.onto (hb.block _ hr.lt)⟩
theorem list_wf : (Lit.int .i64 5).wf = true ∧ (Lit.int .i64 6).wf = true ∧ (Lit.int .i64 0).wf = true := by decide
end Go.Proofs.YtjcejjejlekelaaGreatDoor
namespace Go.Proofs.YtjcejjejlekelaaGreatDoor
open Go.RowKit

theorem hf_zero (w : World) (lo hi : Nat) (h : lo ≤ hi) : HF w lo hi zeroT (.slice none 0 0) (.slice none 0 0) :=
  hf_of (m := lo) list_wf.2.2 list_wf.2.2 (by decide) (Nat.le_refl _) h (lf_nil _ _ _) (mf_nil _ _ _)
theorem two_new (w : World) (c d : Array Value) (t : TypeId) : Row ((w.alloc (.cells c t)).alloc (.cells d t)) (w.heap.size + 1) t d.size := by
  have := Row.new (w.alloc (.cells c t)) d t
  rw [World.size_alloc] at this
  exact this
end Go.Proofs.YtjcejjejlekelaaGreatDoor
