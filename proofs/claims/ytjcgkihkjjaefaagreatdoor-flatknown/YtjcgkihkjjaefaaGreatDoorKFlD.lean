
import Derived.Test.YtjcgkihkjjaefaaGreatDoorKFlC
import Derived.Test.YtjcgkihkjjaefaaGreatDoorKPathFind
import Derived.Test.YtjcgkihkjjaefaaGreatDoorKOrders
import Derived.Deep.RegionLawGrows
import Derived.ArgAppend
import Derived.Lib.AppendZerosOnto
import Derived.Lib.AppendZeros
import Derived.Laws.IdiomCopy
import Derived.Lib.Overlaps
import Derived.Deep.Upon
/- slices.Insert of one path among columns, walked: at the end; in a new row; in the row that is there. -/
namespace Go.Proofs.YtjcgkihkjjaefaaGreatDoor
open Go.RowKit

/-- cells put into an array -/
def putA (A : Array Value) : Nat → List Value → Array Value
  | _, [] => A
  | o, v :: r => putA (A.setIfInBounds o v) (o + 1) r
theorem putA_size : ∀ (vs : List Value) (A : Array Value) (o : Nat), (putA A o vs).size = A.size
  | [], _, _ => rfl
  | v :: r, A, o => by rw [putA, putA_size r]; simp
theorem putA_at : ∀ (vs : List Value) (A : Array Value) (o j : Nat), o + vs.length ≤ A.size → (putA A o vs)[j]? = if o ≤ j ∧ j < o + vs.length then vs[j - o]? else A[j]?
  | [], A, o, j, h => by
    rw [putA, if_neg (by simp only [List.length_nil]; omega)]
  | v :: r, A, o, j, h => by
    rw [putA, putA_at r _ (o + 1) j (by simp only [List.length_cons] at h; simp; omega)]
    simp only [List.length_cons] at h ⊢
    by_cases h1 : o + 1 ≤ j ∧ j < o + 1 + r.length
    · rw [if_pos h1, if_pos (by omega), show j - o = (j - (o + 1)) + 1 by omega, List.getElem?_cons_succ]
    · rw [if_neg h1]
      by_cases h2 : j = o
      · subst h2
        rw [if_pos (by omega), Nat.sub_self, List.getElem?_cons_zero, Array.getElem?_setIfInBounds_self_of_lt (by omega)]
      · rw [if_neg (by omega), Array.getElem?_setIfInBounds_ne (by omega)]
theorem heap_setCells {b : Nat} {ty : TypeId} {fz : Nat × Nat} : ∀ (vs : List Value) (o : Nat) (w : World) (A : Array Value), w.heap[b]? = some (.cells A ty fz) → (w.setCells b o vs).heap[b]? = some (.cells (putA A o vs) ty fz)
  | [], _, _, _, h => h
  | v :: r, o, w, A, h => by
    rw [World.setCells, putA]
    refine heap_setCells r (o + 1) _ _ ?_
    simp [World.setCell, Array.getElem?_modify, h]
theorem grown_setCells (w : World) (b : Nat) : ∀ (vs : List Value) (o : Nat), w.grownBy (w.setCells b o vs) (some b) := by
  intro vs
  induction vs generalizing w with
  | nil => intro o; exact ⟨rfl, rfl, rfl, Nat.le_refl _, fun _ _ _ => rfl⟩
  | cons v r ih =>
    intro o
    rw [World.setCells]
    have h1 := ih (w.setCell ⟨b, o, none⟩ v) (o + 1)
    have h2 := set_grownW w b o v
    exact ⟨h1.os.trans h2.os, h1.tape.trans h2.tape, h1.output.trans h2.output, Nat.le_trans h2.size h1.size, fun k hk hn => (h1.block k (Nat.lt_of_lt_of_le hk h2.size) hn).trans (h2.block k hk hn)⟩
theorem Tryz.infoPath1 : (Tryz.prog.info? 38).map (fun i => (i.zero, i.size, i.bytes)) = some (some (.slice none 0 0), 1, 24) := by kernel_rfl
/-- what Insert of one leaves -/
def Ins1 (B n i : Nat) (U : List Value) (u cv : Value) (w : World) (e : Ending) (w' : World) : Prop := ∃ v', e = .returned v' ∧ w'.ownsRow B 38 1 v' (n + 1) (U.take i ++ u :: U.drop i) ∧ w.grownBy w' cv.ownBlock
set_option maxRecDepth 100000 in
set_option maxHeartbeats 2000000 in
theorem cins_end (B n : Nat) (U : List Value) (u cv : Value) (ad : Addr) (w : World) (hO : w.ownsRow B 38 1 cv n U) (hB : B ≤ w.heap.size) (hu : w.cell? ad = some u) (h1 : u.oneCell' = true) (hm : n ≤ 1000000) :
    Calls Tryz.prog 41 #[cv, .int .i64 (n : Int), .slice (some ad) 1 1] w (Ins1 B n n U u cv w) := by
  obtain ⟨i1, hi', hz0', hz1', hz2'⟩ := info_parts Tryz.infoPath1
  obtain ⟨oc, cc, rfl⟩ := own_slice hO
  have hlen : U.length = n := by have := hO.1; omega
  have HT := hid (show U.take n ++ u :: U.drop n = U ++ [u] by rw [List.take_of_length_le (by omega), List.drop_of_length_le (by omega)])
  have HO := hid hO
  have hcc : n ≤ cc := by
    rcases hO.2 with ⟨e, h0⟩ | ⟨g, cap, cur, e, -, -, h3, -⟩
    · omega
    · injection e with _ _ e3; omega
  clear hO
  unfold Ins1
  rw [HT.out]
  clear HT
  have hii : ((n : Int) == (n : Int)) = true := by simp
  go_enter Tryz.func41, Tryz.ntmps41
  go_wp2_with (at_builtin; go_must (refine wpList_append_own_at _ rfl (.tmp 23) (.tmp 24) 58 rfl B 38 i1 (.slice none 0 0) 1 24 Tryz.underlying58 hi' hz0' hz1' hz2' rfl (by decide) _ n U (by rfl) HO.out ad 1 1 [u] (by rfl) rfl (by intro j v hv; cases j with | zero => simp at hv; subst hv; simpa [Addr.add] using hu | succ j => simp at hv) (by intro v hv; simp at hv; subst hv; exact h1) (by unfold maxLen; omega) (by omega) hB ?_; intro v9 w9 hown9 hgr9 hnil9 hat9))
  all_goals go_ret
  all_goals first | exact ⟨_, rfl, hown9, hgr9⟩ | exact ⟨_, rfl, hown9, by cases oc <;> exact hgr9⟩
theorem own_put {B g cap n i : Nat} {U : List Value} {u : Value} {A : Array Value} {w : World} (hg : w.heap[g]? = some (.cells A 38 (0, 0))) (hB : B ≤ g) (hU : U.length = n) (hi : i ≤ n) (hn : n + 1 ≤ cap) (hc : cap ≤ maxLen) (hA : A.size = cap)
    (h : ∀ j, j < n + 1 → A[j]? = (U.take i ++ u :: U.drop i)[j]?) : w.ownsRow B 38 1 (.slice (some ⟨g, 0, none⟩) (n + 1) cap) (n + 1) (U.take i ++ u :: U.drop i) := by
  have hl : (U.take i ++ u :: U.drop i).length = n + 1 := by simp; omega
  refine ⟨by omega, .inr ⟨g, cap, A, rfl, hB, hg, hn, hc, by omega, ?_⟩⟩
  apply List.ext_getElem?
  intro j
  rw [List.getElem?_take]
  by_cases hj : j < n + 1
  · rw [if_pos (by omega), ← h j hj]; simp
  · rw [if_neg (by omega), List.getElem?_eq_none (by omega)]
theorem cins_at (U : List Value) (u : Value) (i j : Nat) (hi : i ≤ U.length) : (U.take i ++ u :: U.drop i)[j]? = if j < i then U[j]? else if j = i then some u else U[j - 1]? := by
  by_cases h : j < i
  · rw [if_pos h, List.getElem?_append_left (by simp; omega), List.getElem?_take, if_pos h]
  · rw [if_neg h, List.getElem?_append_right (by simp; omega), List.length_take, Nat.min_eq_left hi]
    by_cases h2 : j = i
    · subst h2; rw [if_pos rfl, Nat.sub_self]; rfl
    · rw [if_neg h2, show j - i = (j - i - 1) + 1 by omega, List.getElem?_cons_succ, List.getElem?_drop, show i + (j - i - 1) = j - 1 by omega]
theorem run_copy1 {P : Program} (w : World) (dT sT ty elem : TypeId) (b o dLen dCap : Nat) (a : Addr) (sLen sCap : Nat) (cs : List Value)
    (hu : P.underlying dT = some (.slice elem)) (hs : (P.info? elem).map (·.size) = some 1) (hn : cs.length = Nat.min sLen dLen)
    (hsrc : ∀ j v, cs[j]? = some v → w.cell? (a.add j) = some v) (hc : ∀ j, j < cs.length → (w.cell? ⟨b, o + j, none⟩).isSome = true) (hf : ∀ j, j < cs.length → w.frozen? ⟨b, o + j, none⟩ = false) (h1 : ∀ v ∈ cs, v.oneCell' = true) :
    (Builtin.copy_ #[dT, sT] ty #[.slice (some ⟨b, o, none⟩) dLen dCap, .slice (some a) sLen sCap]).run P w = .ok (goInt (Nat.min sLen dLen)) (w.setCells b o cs) := by
  have hl := run_loadCells_list (P := P) w a cs hsrc
  have hst := run_storeCells_cells (P := P) b o cs 0 w (by simpa using hc) (by simpa using hf) h1
  cases hq : P.info? elem with
  | none => simp [hq] at hs
  | some i =>
    have hi : i.size = 1 := by simpa [hq] using hs
    simp [Builtin.copy_, run_underlying hu, Builtin.lenOf, Builtin.firstCells, sizeOf, typeInfo, hq, hi, ← hn, hl, hst]
theorem wp_copy1 {P : Program} (w : World) {o : Oper} {a : Act} {K : Act → World → Prop} {Q : Exit → Act → World → Prop} (d s : Operand) (t t' : TypeId)
    (ho : o.op = .call { callee := .builtin .copy, args := #[d, s], argTypes := #[t, t'] }) (v u : Value) (hd : a.eval d = v) (hs : a.eval s = u) {v' : Value} {w' : World}
    (hr : (Builtin.copy_ #[t, t'] o.type #[v, u]).run P w = .ok v' w') (h : K (a.put o.dst v') w') : o.wp P a w K Q := by
  unfold Oper.wp execOp
  simp only [ho, resolve, invoke, builtin, Sem.run_bind, Sem.run_pure, Result.andThen_ok, List.map_toArray, List.map_cons, List.map_nil, hd, hs, hr]
  exact h
end Go.Proofs.YtjcgkihkjjaefaaGreatDoor
