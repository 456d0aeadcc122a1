/- The walk of UtfWrites, out of the contracts of what it calls. -/
import Derived.Test.YtncapmppmepdkaaD
import Derived.Test.YtncapmppmepdkaaG
import Derived.Test.YtncapmppmepdkaaW
import Derived.Laws.AppendOwnNone
import Derived.OpenShut
namespace Go.Proofs.Ytncapmppmepdkaa
open Go.RowKit

/-- What the walk is told of a slice of integers that came in: it is nil; or it leads to a row of as many cells as its capacity says, the first of them its elements. -/
def IsRow (k : IntKind) (w : World) (a : Option Addr) (len cap : Nat) (zs : List Int) : Prop :=
  (a = none ∧ len = 0 ∧ cap = 0 ∧ zs = []) ∨
  ∃ x, a = some x ∧ len ≤ cap ∧ cap ≤ maxLen ∧ zs.length = cap ∧ (∀ i, i < zs.length → w.cell? (x.add i) = some (.int k (zs.getD i 0))) ∧ ∀ n ∈ zs, (Lit.int k n).wf = true

theorem conv_any (w : World) (x : Addr) (n cap : Nat) (xs : List Int) (hl : xs.length = n) (hc : ∀ j v, (xs.map (Value.int .u8))[j]? = some v → w.cell? (x.add j) = some v) :
    (convert 29 9 (.slice (some x) n cap)).run Try.prog w = .ok (.string (strOfNums xs)) w := by
  have hld : (loadCells x n).run Try.prog w = .ok (xs.map (Value.int .u8)).toArray w := by
    have := run_loadCells_list (P := Try.prog) w x (xs.map (Value.int .u8)) hc
    simpa [hl] using this
  rw [run_convert_bytes_string w 29 9 5 _ n cap Try.underlying29 Try.underlying5 Try.underlying9, run_bytesToString w _ n cap xs hld, foldl_push_bytes]
  simp [strOfNums, ByteArray.empty, ByteArray.emptyWithCapacity]
  rfl
theorem put_own (v : Value) (n base : Nat) (xs : List Int) (r : Int) (w : World) (hb : n ≤ 1000000) (hown : w.ownsRow base 5 1 v n (xs.map (Value.int .u8))) :
    Calls Try.prog 13 #[v, .int .i64 r] w fun e w' => e = .returned (.slice (some ⟨w.heap.size, 0, none⟩) (n + (enc r).length) (n + 4)) ∧ w'.ownsRow w.heap.size 5 1 (.slice (some ⟨w.heap.size, 0, none⟩) (n + (enc r).length) (n + 4)) (n + (enc r).length) ((xs ++ enc r).map (Value.int .u8)) ∧ Below w.heap.size w w' := by
  have hl : xs.length = n := by have := hown.1; simpa using this
  have hs := hown
  rcases hs with ⟨-, ⟨rfl, rfl⟩ | ⟨g, cap, cur, rfl, -⟩⟩
  · exact put_any none 0 0 xs r w hl hb (fun h => absurd h (Nat.lt_irrefl 0))
  · exact put_any _ n cap xs r w hl hb (fun _ => ⟨_, rfl, hown.cells rfl⟩)

theorem owns_later {w w' : World} {base : Nat} {e : TypeId} {size n : Nat} {v : Value} {xs : List Value} (h : w.ownsRow base e size v n xs) (hb : Below w.heap.size w w') : w'.ownsRow base e size v n xs :=
  h.kept (row := none) ⟨hb.os, hb.tape, hb.output, hb.size, fun k hk _ => hb.block k hk⟩ (by cases v.ownBlock <;> simp)
theorem str_add_nil (ys : List Int) : ((strOfNums ys).toList == (ByteArray.empty ++ strOfNums ys).toList) = true := by
  rw [ByteArray.toList_eq, ByteArray.toList_eq]
  simp
theorem enc_len (r : Int) : (enc r).length ≤ 4 := by
  cases h : goodB r with
  | false => unfold enc; rw [h]; simp
  | true =>
    rw [enc_good r h]
    rcases enc_forms r h with ⟨-, -, e⟩ | ⟨-, -, e⟩ | ⟨-, -, e⟩ | ⟨-, -, e⟩ <;> rw [e] <;> simp
theorem enc_pos (r : Int) (h : goodB r = true) : 1 ≤ (enc r).length := by
  rw [enc_good r h]
  rcases enc_forms r h with ⟨-, -, e⟩ | ⟨-, -, e⟩ | ⟨-, -, e⟩ | ⟨-, -, e⟩ <;> rw [e] <;> simp
theorem take_more (r : Int) (h : goodB r = true) (m : ByteArray) (w : World) (hs : (strOfNums (enc r) ++ m).size ≤ maxLen) :
    Calls Try.prog 9 #[.string (strOfNums (enc r) ++ m)] w fun e w' => e = .returned (.tuple #[.int .i64 r, .int .i64 ((strOfNums (enc r)).size : Nat)]) ∧ w' = w := by
  have hv := take_all _ w hs
  have ht := tk_str r h m
  have h0 := (of_decide_eq_true h).1
  rw [ht.1, ht.2.1, Int.toNat_of_nonneg h0, ← strOfNums_size] at hv
  exact hv
theorem take_less (r : Int) (h : goodB r = true) (w : World) (hs : ((strOfNums (enc r)).extract 0 ((strOfNums (enc r)).size - 1)).size ≤ maxLen) :
    Calls Try.prog 9 #[.string ((strOfNums (enc r)).extract 0 ((strOfNums (enc r)).size - 1))] w fun e w' => ∃ k : Nat, e = .returned (.tuple #[.int .i64 k, .int .i64 0]) ∧ w' = w := by
  have hv := take_all _ w hs
  have ht := (tk_str r h ByteArray.empty).2.2
  have e : ((strOfNums (enc r)).extract 0 ((strOfNums (enc r)).size - 1)) = (strOfNums (enc r)).extract 0 ((enc r).length - 1) := by rw [strOfNums_size]
  rw [e] at hv ⊢
  rw [ht] at hv
  exact hv.mono fun e w' he => ⟨_, he⟩

set_option maxRecDepth 100000 in
set_option maxHeartbeats 1000000 in
theorem writes_some_yes (x : Addr) (n cap : Nat) (xs : List Int) (r : Int) (m : ByteArray) (w : World) (hl : xs.length = n) (hc : ∀ j v, (xs.map (Value.int .u8))[j]? = some v → w.cell? (x.add j) = some v)
    (hn : n ≤ 100) (hm : m.size ≤ 100) (hg : goodB r = true) :
    Calls Try.prog 5 #[.slice (some x) n cap, .int .i64 r, .string m] w fun e w' => e = .returned (.bool true) ∧ Below w.heap.size w w' := by
  obtain ⟨i0, hi, hz0, hz1, hz2⟩ := info_parts Try.info5
  have HL := hid hl
  have HC := hid hc
  clear hl hc
  go_enter Try.func5, Try.ntmps5
  go_wp2_with fail
  refine (awake_any _).mono ?_
  rintro e wa ⟨rfl, hba⟩
  have hown0 := World.ownsRow_made (base := wa.heap.size) (e := 5) (size := 1) wa #[] 0 (Nat.le_refl _) (Nat.zero_le _) rfl
  have hb0 : Below w.heap.size w (wa.alloc (.cells #[] 5)) := hba.alloc hba.size _
  go_wp2_with (at_builtin; go_must (refine wpList_append_own _ rfl (.tmp 23) (.tmp 24) 29 rfl wa.heap.size 5 i0 (.int .u8 0) 1 1 Try.underlying29 hi hz0 hz1 hz2 rfl (by decide) _ 0 [] rfl hown0 x n cap (xs.map (Value.int .u8)) rfl (by simp [HL.out]) (fun j v h => cell_later hb0 (HC.out j v h)) (ints_oneCell _ _) (by unfold maxLen; omega) (by omega) (by simp) ?_; intro v1 w1 hown1 hgr1 _))
  have hb1 : Below w.heap.size w w1 := hb0.grown hgr1 hb0.size (fun k hk => by cases hk; exact hba.size)
  rw [Nat.zero_add, List.nil_append] at hown1
  clear hgr1 hown0 hi hz0 hz1 hz2
  refine (put_own v1 n wa.heap.size xs r w1 (by omega) hown1).mono ?_
  rintro e w2 ⟨rfl, hown2, hb2⟩
  go_wp2_with fail
  refine (rput_any _ _).mono ?_
  rintro e w3 ⟨rfl, hb3⟩
  have hbw : Below w.heap.size w w3 := (hb1.trans (hb2.mono hb1.size)).trans (hb3.mono (Nat.le_trans hb1.size hb2.size))
  have hcv1 := conv_row w3 _ _ _ _ _ (owns_later hown2 hb3)
  have hcv2 := conv_any w3 x n cap xs HL.out (fun j v h => cell_later hbw (HC.out j v h))
  have hadd := str_add xs (enc r)
  have hs1 : (strOfNums xs).size ≤ 100 := by rw [strOfNums_size, HL.out]; exact hn
  have hemp : (strOfNums (enc r)).toList.isEmpty = false := by rw [str_empty, hg]; rfl
  have hs2 : (strOfNums (enc r)).size ≤ 4 := by rw [strOfNums_size]; exact enc_len r
  have hs3 : 1 ≤ (strOfNums (enc r)).size := by rw [strOfNums_size]; exact enc_pos r hg
  have hml : (strOfNums (enc r) ++ m).size ≤ maxLen := by rw [ByteArray.size_append]; unfold maxLen; omega
  have hcl : ((strOfNums (enc r)).extract 0 ((strOfNums (enc r)).size - 1)).size ≤ maxLen := by simp; unfold maxLen; omega
  clear hown1 hown2 hb1 hb2 hb3 hb0 hba
  go_wp2_with (first | (go_at_call 12; go_must (refine (good_any _ _).mono ?_; rintro e w' ⟨rfl, hw'⟩; obtain rfl := hw'.symm)) | (go_at_call 19; go_must (refine (rgood_any _ _).mono ?_; rintro e w' ⟨rfl, hw'⟩; obtain rfl := hw'.symm)))
  refine (take_more r hg m _ hml).mono ?_
  rintro e w' ⟨rfl, hw'⟩
  obtain rfl := hw'.symm
  go_wp2_with fail
  refine (take_less r hg _ hcl).mono ?_
  rintro e w' ⟨k, rfl, hw'⟩
  obtain rfl := hw'.symm
  go_wp2_with fail
  go_ret
  exact ⟨rfl, hbw⟩

set_option maxRecDepth 100000 in
set_option maxHeartbeats 1000000 in
theorem writes_some_no (x : Addr) (n cap : Nat) (xs : List Int) (r : Int) (m : ByteArray) (w : World) (hl : xs.length = n) (hc : ∀ j v, (xs.map (Value.int .u8))[j]? = some v → w.cell? (x.add j) = some v)
    (hn : n ≤ 100) (hm : m.size ≤ 100) (hg : goodB r = false) :
    Calls Try.prog 5 #[.slice (some x) n cap, .int .i64 r, .string m] w fun e w' => e = .returned (.bool true) ∧ Below w.heap.size w w' := by
  obtain ⟨i0, hi, hz0, hz1, hz2⟩ := info_parts Try.info5
  have HL := hid hl
  have HC := hid hc
  clear hl hc
  go_enter Try.func5, Try.ntmps5
  go_wp2_with fail
  refine (awake_any _).mono ?_
  rintro e wa ⟨rfl, hba⟩
  have hown0 := World.ownsRow_made (base := wa.heap.size) (e := 5) (size := 1) wa #[] 0 (Nat.le_refl _) (Nat.zero_le _) rfl
  have hb0 : Below w.heap.size w (wa.alloc (.cells #[] 5)) := hba.alloc hba.size _
  go_wp2_with (at_builtin; go_must (refine wpList_append_own _ rfl (.tmp 23) (.tmp 24) 29 rfl wa.heap.size 5 i0 (.int .u8 0) 1 1 Try.underlying29 hi hz0 hz1 hz2 rfl (by decide) _ 0 [] rfl hown0 x n cap (xs.map (Value.int .u8)) rfl (by simp [HL.out]) (fun j v h => cell_later hb0 (HC.out j v h)) (ints_oneCell _ _) (by unfold maxLen; omega) (by omega) (by simp) ?_; intro v1 w1 hown1 hgr1 _))
  have hb1 : Below w.heap.size w w1 := hb0.grown hgr1 hb0.size (fun k hk => by cases hk; exact hba.size)
  rw [Nat.zero_add, List.nil_append] at hown1
  clear hgr1 hown0 hi hz0 hz1 hz2
  refine (put_own v1 n wa.heap.size xs r w1 (by omega) hown1).mono ?_
  rintro e w2 ⟨rfl, hown2, hb2⟩
  go_wp2_with fail
  refine (rput_any _ _).mono ?_
  rintro e w3 ⟨rfl, hb3⟩
  have hbw : Below w.heap.size w w3 := (hb1.trans (hb2.mono hb1.size)).trans (hb3.mono (Nat.le_trans hb1.size hb2.size))
  have hcv1 := conv_row w3 _ _ _ _ _ (owns_later hown2 hb3)
  have hcv2 := conv_any w3 x n cap xs HL.out (fun j v h => cell_later hbw (HC.out j v h))
  have hadd := str_add xs (enc r)
  have hs1 : (strOfNums xs).size ≤ 100 := by rw [strOfNums_size, HL.out]; exact hn
  have hemp : (strOfNums (enc r)).toList.isEmpty = true := by rw [str_empty, hg]; rfl
  have hs2 : (strOfNums (enc r)).size ≤ 4 := by rw [strOfNums_size]; exact enc_len r
  clear hown1 hown2 hb1 hb2 hb3 hb0 hba
  go_wp2_with (first | (go_at_call 12; go_must (refine (good_any _ _).mono ?_; rintro e w' ⟨rfl, hw'⟩; obtain rfl := hw'.symm)) | (go_at_call 19; go_must (refine (rgood_any _ _).mono ?_; rintro e w' ⟨rfl, hw'⟩; obtain rfl := hw'.symm)))
  go_ret
  exact ⟨rfl, hbw⟩

set_option maxRecDepth 100000 in
set_option maxHeartbeats 1000000 in
theorem writes_none_yes (r : Int) (m : ByteArray) (w : World) (hm : m.size ≤ 100) (hg : goodB r = true) :
    Calls Try.prog 5 #[.slice none 0 0, .int .i64 r, .string m] w fun e w' => e = .returned (.bool true) ∧ Below w.heap.size w w' := by
  obtain ⟨i0, hi, hz0, hz1, hz2⟩ := info_parts Try.info5
  go_enter Try.func5, Try.ntmps5
  go_wp2_with fail
  refine (awake_any _).mono ?_
  rintro e wa ⟨rfl, hba⟩
  have hown0 := World.ownsRow_made (base := wa.heap.size) (e := 5) (size := 1) wa #[] 0 (Nat.le_refl _) (Nat.zero_le _) rfl
  have hb0 : Below w.heap.size w (wa.alloc (.cells #[] 5)) := hba.alloc hba.size _
  go_wp2_with (at_builtin; go_must (refine wpList_append_own_none rfl (.tmp 23) (.tmp 24) 29 rfl wa.heap.size 5 i0 1 Try.underlying29 hi _ 0 [] rfl hown0 rfl ?_))
  have hb1 := hb0
  refine (put_own _ 0 wa.heap.size [] r _ (by omega) hown0).mono ?_
  rintro e w2 ⟨rfl, hown2, hb2⟩
  simp only [List.nil_append, Nat.zero_add] at hown2
  clear hown0 hi hz0 hz1 hz2
  go_wp2_with fail
  refine (rput_any _ _).mono ?_
  rintro e w3 ⟨rfl, hb3⟩
  have hbw : Below w.heap.size w w3 := (hb1.trans (hb2.mono hb1.size)).trans (hb3.mono (Nat.le_trans hb1.size hb2.size))
  have hcv1 : (convert 29 9 (.slice (some ⟨wa.heap.size + 1, 0, none⟩) (enc r).length 4)).run Try.prog w3 = .ok (.string (strOfNums (enc r))) w3 := by
    have h := conv_row w3 _ _ _ _ _ (owns_later hown2 hb3)
    rw [World.size_alloc] at h; exact h
  have hcv2 := run_convert_bytes_nil (P := Try.prog) w3 29 5 Try.underlying29 Try.underlying5 0 0 9 Try.underlying9
  have hadd := str_add_nil (enc r)
  have hemp : (strOfNums (enc r)).toList.isEmpty = false := by rw [str_empty, hg]; rfl
  have hs2 : (strOfNums (enc r)).size ≤ 4 := by rw [strOfNums_size]; exact enc_len r
  have hs3 : 1 ≤ (strOfNums (enc r)).size := by rw [strOfNums_size]; exact enc_pos r hg
  have hml : (strOfNums (enc r) ++ m).size ≤ maxLen := by rw [ByteArray.size_append]; unfold maxLen; omega
  have hcl : ((strOfNums (enc r)).extract 0 ((strOfNums (enc r)).size - 1)).size ≤ maxLen := by simp; unfold maxLen; omega
  clear hown2 hb1 hb2 hb3 hb0 hba
  go_wp2_with (first | (go_at_call 12; go_must (refine (good_any _ _).mono ?_; rintro e w' ⟨rfl, hw'⟩; obtain rfl := hw'.symm)) | (go_at_call 19; go_must (refine (rgood_any _ _).mono ?_; rintro e w' ⟨rfl, hw'⟩; obtain rfl := hw'.symm)))
  refine (take_more r hg m _ hml).mono ?_
  rintro e w' ⟨rfl, hw'⟩
  obtain rfl := hw'.symm
  go_wp2_with fail
  refine (take_less r hg _ hcl).mono ?_
  rintro e w' ⟨k, rfl, hw'⟩
  obtain rfl := hw'.symm
  go_wp2_with fail
  go_ret
  exact ⟨rfl, hbw⟩

set_option maxRecDepth 100000 in
set_option maxHeartbeats 1000000 in
theorem writes_none_no (r : Int) (m : ByteArray) (w : World) (hm : m.size ≤ 100) (hg : goodB r = false) :
    Calls Try.prog 5 #[.slice none 0 0, .int .i64 r, .string m] w fun e w' => e = .returned (.bool true) ∧ Below w.heap.size w w' := by
  obtain ⟨i0, hi, hz0, hz1, hz2⟩ := info_parts Try.info5
  go_enter Try.func5, Try.ntmps5
  go_wp2_with fail
  refine (awake_any _).mono ?_
  rintro e wa ⟨rfl, hba⟩
  have hown0 := World.ownsRow_made (base := wa.heap.size) (e := 5) (size := 1) wa #[] 0 (Nat.le_refl _) (Nat.zero_le _) rfl
  have hb0 : Below w.heap.size w (wa.alloc (.cells #[] 5)) := hba.alloc hba.size _
  go_wp2_with (at_builtin; go_must (refine wpList_append_own_none rfl (.tmp 23) (.tmp 24) 29 rfl wa.heap.size 5 i0 1 Try.underlying29 hi _ 0 [] rfl hown0 rfl ?_))
  have hb1 := hb0
  refine (put_own _ 0 wa.heap.size [] r _ (by omega) hown0).mono ?_
  rintro e w2 ⟨rfl, hown2, hb2⟩
  simp only [List.nil_append, Nat.zero_add] at hown2
  clear hown0 hi hz0 hz1 hz2
  go_wp2_with fail
  refine (rput_any _ _).mono ?_
  rintro e w3 ⟨rfl, hb3⟩
  have hbw : Below w.heap.size w w3 := (hb1.trans (hb2.mono hb1.size)).trans (hb3.mono (Nat.le_trans hb1.size hb2.size))
  have hcv1 : (convert 29 9 (.slice (some ⟨wa.heap.size + 1, 0, none⟩) (enc r).length 4)).run Try.prog w3 = .ok (.string (strOfNums (enc r))) w3 := by
    have h := conv_row w3 _ _ _ _ _ (owns_later hown2 hb3)
    rw [World.size_alloc] at h; exact h
  have hcv2 := run_convert_bytes_nil (P := Try.prog) w3 29 5 Try.underlying29 Try.underlying5 0 0 9 Try.underlying9
  have hadd := str_add_nil (enc r)
  have hemp : (strOfNums (enc r)).toList.isEmpty = true := by rw [str_empty, hg]; rfl
  have hs2 : (strOfNums (enc r)).size ≤ 4 := by rw [strOfNums_size]; exact enc_len r
  clear hown2 hb1 hb2 hb3 hb0 hba
  go_wp2_with (first | (go_at_call 12; go_must (refine (good_any _ _).mono ?_; rintro e w' ⟨rfl, hw'⟩; obtain rfl := hw'.symm)) | (go_at_call 19; go_must (refine (rgood_any _ _).mono ?_; rintro e w' ⟨rfl, hw'⟩; obtain rfl := hw'.symm)))
  go_ret
  exact ⟨rfl, hbw⟩

set_option maxRecDepth 100000 in
set_option maxHeartbeats 400000 in
theorem writes_long (ao : Option Addr) (n cap : Nat) (r : Int) (m : ByteArray) (w : World) (h : (100 : Int) < n ∨ ((n : Nat) : Int) ≤ 100 ∧ (100 : Int) < m.size) :
    Calls Try.prog 5 #[.slice ao n cap, .int .i64 r, .string m] w fun e w' => e = .returned (.bool true) ∧ Below w.heap.size w w' := by
  rcases h with h | ⟨h, h'⟩
  all_goals
    go_enter Try.func5, Try.ntmps5
    go_wp2_with fail
    refine (awake_any _).mono ?_
    rintro e wa ⟨rfl, hba⟩
    go_wp2_with fail
    go_ret
    exact ⟨rfl, hba⟩

theorem writes_walk (a0 : Option Addr) (len0 cap0 : Nat) (z0 : List Int) (a1 : Int) (a2 : ByteArray) (w : World) (w0 : IsRow .u8 w a0 len0 cap0 z0) (_w1 : (Lit.int .i64 a1).wf = true) (_w2 : a2.size ≤ maxLen) :
    Calls Try.prog 5 #[.slice a0 len0 cap0, .int .i64 a1, .string a2] w fun e w' => e = .returned (.bool true) ∧ Below w.heap.size w w' := by
  by_cases hlong : len0 ≤ 100 ∧ a2.size ≤ 100
  · obtain ⟨hn, hm⟩ := hlong
    rcases w0 with ⟨rfl, rfl, rfl, -⟩ | ⟨x, rfl, hlc, -, hz, hcell, -⟩
    · cases hg : goodB a1 with
      | false => exact writes_none_no a1 a2 w hm hg
      | true => exact writes_none_yes a1 a2 w hm hg
    · have hl : (z0.take len0).length = len0 := by simp; omega
      have hc : ∀ j v, ((z0.take len0).map (Value.int .u8))[j]? = some v → w.cell? (x.add j) = some v := by
        intro j v h
        rw [List.getElem?_map, List.getElem?_take] at h
        by_cases hj : j < len0
        · rw [if_pos hj] at h
          have hjz : j < z0.length := by omega
          rw [List.getElem?_eq_getElem hjz] at h
          simp only [Option.map_some, Option.some.injEq] at h
          rw [hcell j hjz, ← h, List.getD, List.getElem?_eq_getElem hjz]; rfl
        · rw [if_neg hj] at h; simp at h
      cases hg : goodB a1 with
      | false => exact writes_some_no x len0 cap0 _ a1 a2 w hl hc hn hm hg
      | true => exact writes_some_yes x len0 cap0 _ a1 a2 w hl hc hn hm hg
  · exact writes_long a0 len0 cap0 a1 a2 w (by omega)
end Go.Proofs.Ytncapmppmepdkaa
