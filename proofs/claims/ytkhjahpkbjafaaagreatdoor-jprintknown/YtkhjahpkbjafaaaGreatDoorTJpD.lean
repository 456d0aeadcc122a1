/- The program's printer of JSON: a value without parts, a new line, a key. -/
import Derived.Test.YtkhjahpkbjafaaaGreatDoorTJpA
import Derived.Test.YtkhjahpkbjafaaaGreatDoorTShelf4
import Derived.Test.YtkhjahpkbjafaaaGreatDoorTOrders
import Derived.Test.YtkhjahpkbjafaaaGreatDoorTRefPrint
import Derived.Test.YtkhjahpkbjafaaaGreatDoorTDecOne
import Derived.Lib.AppendIntMem
/- The program's printer of JSON: a new line, a key. -/
namespace Go.Proofs.YtkhjahpkbjafaaaGreatDoor
open Go.RowKit

/-- the table of powers that the library's writing of a number reads -/
def GlobT (w : World) : Prop := Lib.TabIs Tryz.prog w "internal/strconv.uint64pow10" .u64 Lib.pow10Tab
theorem GlobT.on {w w' : World} (h : GlobT w) (hb : Below w.heap.size w w') : GlobT w' := var_on hb h
theorem format_any (n : Int) (w : World) (hg : GlobT w) (h : -9223372036854775808 ≤ n ∧ n < 9223372036854775808) :
    Calls Tryz.prog 101 #[.int .i64 n, .int .i64 10] w fun e w' => e = .returned (.string (mkS (txt n))) ∧ Below w.heap.size w w' := by
  refine (Tryz.strconv_FormatInt_10 n h.1 (by omega) w hg).mono ?_
  rintro e w' ⟨rfl, k, os, rfl⟩
  exact ⟨by rw [itoa_txt]; rfl, Lib.below_grow _ _ (Nat.le_refl _) _ _⟩
set_option maxRecDepth 100000 in
set_option maxHeartbeats 2000000 in
theorem psingle_any (k n : Int) (s : ByteArray) (L V : List VT) (K : List ByteArray) (x y : Value) (w : World) (hg : GlobT w) (hn : -9223372036854775808 ≤ n ∧ n < 9223372036854775808) (hnode : nodeB (.mk k n s L K V) = true) (h5 : ¬ k = 5) (h6 : ¬ k = 6) :
    Calls Tryz.prog 72 #[.agg #[.int .i64 k, .int .i64 n, .string s, x, y]] w fun e w' => e = .returned (.string (mkS (tkS k n s).tx)) ∧ Below w.heap.size w w' := by
  have hal := valloc_bel (Below.refl w.heap.size w) (.cells #[.int .i64 k, .int .i64 n, .string s, x, y] 27)
  have C2 := hid (fun X (hX : Below w.heap.size w X) => format_any n X (hg.on hX) hn)
  have HAL := hid hal
  clear hal hg
  unfold nodeB nodeC at hnode
  simp only [VT.kd, VT.nm, VT.st, VT.ls, VT.ks, VT.vs] at hnode
  have C4 := hid (fun X (h : s.size ≤ 100000) => jquote_any s X h)
  have CB := hid (fun (b : Bool) X => Tryz.strconv_FormatBool b X)
  by_cases h0 : k = 0
  · subst h0
    go_enter Tryz.func72, Tryz.ntmps72
    go_wp2_with fail
    go_ret
    exact ⟨rfl, HAL.out⟩
  by_cases h1 : k = 1
  · subst h1
    by_cases hn1 : n = 1
    · subst hn1
      go_enter Tryz.func72, Tryz.ntmps72
      go_wp2_with (go_at_call 100; go_must (refine (CB.out _ _).mono ?_; rintro e w1 ⟨rfl, rfl⟩))
      go_ret
      exact ⟨rfl, HAL.out⟩
    · have e : (tkS 1 n s).tx = [102, 97, 108, 115, 101] := by unfold tkS; rw [if_pos rfl, if_neg hn1]; rfl
      rw [e]
      have hb : (n == 1) = false := by simpa using hn1
      go_enter Tryz.func72, Tryz.ntmps72
      go_wp2_with (go_at_call 100; go_must (refine (CB.out _ _).mono ?_; rintro e w1 ⟨rfl, rfl⟩))
      go_ret
      exact ⟨rfl, HAL.out⟩
  by_cases h2 : k = 2
  · subst h2
    go_enter Tryz.func72, Tryz.ntmps72
    go_wp2_with (go_at_call 101; go_must (refine (C2.out _ HAL.out).mono ?_; rintro e w1 ⟨rfl, hb1⟩))
    go_ret
    exact ⟨rfl, vonto HAL.out hb1⟩
  by_cases h3 : k = 3
  · subst h3
    have e : mkS (tkS 3 n s).tx = s := by
      unfold tkS; rw [if_neg (by decide), if_neg (by decide), if_pos rfl]; exact (mkS_of s _ rfl).symm
    rw [e]
    go_enter Tryz.func72, Tryz.ntmps72
    go_wp2_with fail
    go_ret
    exact ⟨rfl, HAL.out⟩
  by_cases h4 : k = 4
  · subst h4
    have hsz : s.size ≤ 100000 := by
      simp at hnode
      have := (te_vl hnode.1.1.2).2
      rw [size_list] at this; omega
    go_enter Tryz.func72, Tryz.ntmps72
    go_wp2_with (go_at_call 98; go_must (refine (C4.out _ hsz).mono ?_; rintro e w1 ⟨rfl, hb1⟩))
    go_ret
    exact ⟨rfl, vonto HAL.out hb1⟩
  by_cases h7 : k = 7
  · subst h7
    have hsz : s.size ≤ 100000 := by
      simp at hnode
      have := (stamp_vl hnode.1.1.2).2
      rw [size_list] at this; omega
    go_enter Tryz.func72, Tryz.ntmps72
    go_wp2_with (go_at_call 98; go_must (refine (C4.out _ hsz).mono ?_; rintro e w1 ⟨rfl, hb1⟩))
    go_ret
    exact ⟨rfl, vonto HAL.out hb1⟩
  · simp [h0, h1, h2, h3, h4, h7, h5, h6] at hnode
end Go.Proofs.YtkhjahpkbjafaaaGreatDoor
namespace Go.Proofs.YtkhjahpkbjafaaaGreatDoor
open Go.RowKit

/-- how deep a line is, if there are lines -/
def indO (inl : Bool) (k : Nat) : Option Nat := if inl then some k else none
theorem Pr.drew {w : World} {b : Nat} {l : List UInt8} {inl : Bool} (h : Pr w b l inl) : Pr w.drew b l inl := h
theorem Pr.lt {w : World} {b : Nat} {l : List UInt8} {inl : Bool} (h : Pr w b l inl) : b < w.heap.size := by
  obtain ⟨p, v, hb, -, -⟩ := h
  exact heap_lt hb
theorem Pr.flag {w : World} {b : Nat} {l : List UInt8} {inl : Bool} (h : Pr w b l inl) : w.cell? ⟨b, 2, none⟩ = some (.bool inl) := by
  obtain ⟨p, v, hb, -, -⟩ := h
  rw [cell_heap hb]; rfl
theorem Pr.on {w w' : World} {b : Nat} {l : List UInt8} {inl : Bool} (h : Pr w b l inl) (hb : Below w.heap.size w w') : Pr w' b l inl := by
  obtain ⟨p, v, hb', hp, hv⟩ := h
  exact ⟨p, v, (hb.block b (heap_lt hb')).trans hb', hp, ownsRow_below hv hb⟩
theorem Kp.of {b : Nat} {w w' : World} (hb : Below w.heap.size w w') (hlt : b ≤ w.heap.size) : Kp b w w' :=
  ⟨hb.mono hlt, fun k _ hk _ _ => (hb.block k (heap_lt hk)).trans hk, hb.size⟩
theorem Kp.drew {b : Nat} (w : World) : Kp b w w.drew := ⟨(Below.refl _ _).drew, Lib.OthersKept.refl _ _ _, Nat.le_refl _⟩
theorem rep_two : ∀ k : Nat, Lib.repeatL [32, 32] k = List.replicate (2 * k) 32
  | 0 => rfl
  | k + 1 => by
    have ih := rep_two k
    rw [show Lib.repeatL [32, 32] (k + 1) = [32, 32] ++ Lib.repeatL [32, 32] k from rfl, ih, show ([32, 32] : List UInt8) = List.replicate 2 32 from rfl, List.replicate_append_replicate]
    congr 1; omega
theorem repeat_any (k : Nat) (w : World) (hk : k ≤ 10000) :
    Calls Tryz.prog 125 #[.string ⟨#[32, 32]⟩, .int .i64 (k : Int)] w fun e w' => e = .returned (.string (mkS (List.replicate (2 * k) 32))) ∧ Below w.heap.size w w' := by
  refine (Tryz.strings_Repeat ⟨#[32, 32]⟩ k w (by omega) (by show 2 * k ≤ _; omega)).mono ?_
  rintro e w' ⟨rfl, hb⟩
  exact ⟨by rw [show (⟨#[32, 32]⟩ : ByteArray).data.toList = [32, 32] from rfl, rep_two]; rfl, hb⟩
set_option maxRecDepth 100000 in
set_option maxHeartbeats 2000000 in
theorem pline_any (b : Nat) (l : List UInt8) (inl : Bool) (k : Nat) (w : World) (h : Pr w b l inl) (hk : k ≤ 10000) (hl : l.length ≤ 1000000000000) :
    Calls Tryz.prog 97 #[.pointer (some ⟨b, 0, none⟩), .int .i64 (k : Int)] w fun e w' => e = .returned (.tuple #[]) ∧ Pr w' b (l ++ txs (lnT (indO inl k))) inl ∧ Kp b w w' := by
  have f2 := h.flag
  have HP := hid h
  have hlt := h.lt
  clear h
  cases inl with
  | false =>
    go_enter Tryz.func97, Tryz.ntmps97
    go_wp2
    go_end0
    refine ⟨rfl, ?_, Kp.refl _ _⟩
    have e : l ++ txs (lnT (indO false k)) = l := by simp [indO, lnT, txs]
    rw [e]; exact HP.out
  | true =>
    have CR := hid (fun X => repeat_any k X hk)
    obtain ⟨rp, hrp⟩ : ∃ rp, mkS (List.replicate (2 * k) 32) = rp := ⟨_, rfl⟩
    rw [hrp] at CR
    have hrs : rp.size ≤ 20000 := by rw [← hrp, mkS_size, List.length_replicate]; omega
    have CW := hid (fun X (hX : Pr X b l true) => pwrite_any b l true ((⟨#[10]⟩ : ByteArray) ++ rp) X hX (by rw [ByteArray.size_append]; show l.length + (1 + rp.size) ≤ _; omega))
    have HE := hid (show ((⟨#[10]⟩ : ByteArray) ++ rp).data.toList = txs (lnT (indO true k)) by
      rw [← hrp, show (⟨#[10]⟩ : ByteArray) = mkS [10] from rfl, mkS_app, mkS_list]; simp [indO, ln_some])
    clear hrp
    go_enter Tryz.func97, Tryz.ntmps97
    go_upto_region 1 with fail
    refine wp_region_h (S := fun X => Kp b w X) 7 (by kernel_rfl) (by kernel_rfl) ?_
    have hS0 : Kp b w w.drew := Kp.drew w
    refine take_h (i := 0) (v := ?_) rfl (by kernel_rfl) (by kernel_rfl) (by kernel_rfl) (fun _ _ _ h => h) (by rfl) ?_ hS0 ?_
    rotate_left
    · (intro X hX; go_simp; try with_reducible rfl)
    simp only [Act.put, List.setIfInBounds_toArray, List.set_cons_zero, List.set_cons_succ]
    refine take_h (i := 1) (v := ?_) rfl (by kernel_rfl) (by kernel_rfl) (by kernel_rfl) (fun _ _ _ h => h) (by rfl) ?_ hS0 ?_
    rotate_left
    · (intro X hX; go_simp; try with_reducible rfl)
    simp only [Act.put, List.setIfInBounds_toArray, List.set_cons_zero, List.set_cons_succ]
    refine take_h (i := 2) (v := ?_) rfl (by kernel_rfl) (by kernel_rfl) (by kernel_rfl) (fun _ _ _ h => h) (by rfl) ?_ hS0 ?_
    rotate_left
    · (intro X hX; go_simp; try with_reducible rfl)
    simp only [Act.put, List.setIfInBounds_toArray, List.set_cons_zero, List.set_cons_succ]
    refine take_h (i := 3) (v := ?_) rfl (by kernel_rfl) (by kernel_rfl) (by kernel_rfl) (fun _ _ _ h => h) (by rfl) ?_ hS0 ?_
    rotate_left
    · (intro X hX; go_simp; try with_reducible rfl)
    simp only [Act.put, List.setIfInBounds_toArray, List.set_cons_zero, List.set_cons_succ]
    refine step_h (i := 4) rfl (by kernel_rfl) ?_
    intro KK hKK
    go_simp
    go_wp2_with (go_at_call 125; go_must (refine (CR.out _).mono ?_; rintro e w1 ⟨rfl, hb1⟩))
    have hS1 : Kp b w w1 := hS0.trans (Kp.of hb1 (Nat.le_of_lt HP.out.drew.lt))
    have HP1 := hid (HP.out.drew.on hb1)
    refine hKK.out _ _ hS1 (fun _ => ?_)
    clear hKK KK
    refine step_h (i := 5) rfl (by kernel_rfl) ?_
    intro KK hKK
    go_simp
    go_wp2_with fail
    refine hKK.out _ _ hS1 (fun _ => ?_)
    clear hKK KK
    refine step_h (i := 6) rfl (by kernel_rfl) ?_
    intro KK hKK
    go_simp
    go_wp2_with (go_at_call 71; go_must (refine (CW.out _ HP1.out).mono ?_; rintro e w2 ⟨rfl, hp2, hk2⟩))
    have hS2 : Kp b w w2 := hS1.trans hk2
    refine hKK.out _ _ hS2 (fun _ => ?_)
    clear hKK KK
    refine wpAnyH_done (by kernel_rfl) ?_ _
    go_wp2
    go_end0
    rw [HE.out] at hp2
    exact ⟨rfl, hp2, hS2⟩
end Go.Proofs.YtkhjahpkbjafaaaGreatDoor
