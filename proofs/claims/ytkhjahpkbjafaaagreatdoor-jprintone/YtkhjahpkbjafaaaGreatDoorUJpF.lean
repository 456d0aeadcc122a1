/- The program's printer of JSON: a value without parts, a new line, a key. -/
import Derived.Test.YtkhjahpkbjafaaaGreatDoorUJpA
import Derived.Test.YtkhjahpkbjafaaaGreatDoorUOrders
import Derived.Test.YtkhjahpkbjafaaaGreatDoorURefPrint
import Derived.Test.YtkhjahpkbjafaaaGreatDoorUDecOne
import Derived.Lib.AppendIntMem
/- The program's printer of JSON: a new line, a key. -/
/- The program's printer of JSON: a key. -/
/- The program's printer of JSON: the parts of a list or a map, over any closure. -/
namespace Go.Proofs.YtkhjahpkbjafaaaGreatDoor
open Go.RowKit

/-- the table of powers that the library's writing of a number reads -/
def GlobT (w : World) : Prop := Lib.TabIs Tryz.prog w "internal/strconv.uint64pow10" .u64 Lib.pow10Tab
theorem GlobT.on {w w' : World} (h : GlobT w) (hb : Below w.heap.size w w') : GlobT w' := var_on hb h
theorem format_any (n : Int) (w : World) (hg : GlobT w) (h : -9223372036854775808 ≤ n ∧ n < 9223372036854775808) :
    Calls Tryz.prog 101 #[.int .i64 n, .int .i64 10] w fun e w' => e = .returned (.string (mkS (txt n))) ∧ Below w.heap.size w w' := by
  refine (Tryz.strconv_FormatInt_10 n h.1 (by omega) w hg).mono ?_
  rintro e w' ⟨rfl, k, os, rfl⟩
  exact ⟨by rw [itoa_txt]; rfl, Lib.below_grow _ _ (Nat.le_refl _) _ _⟩
set_option maxRecDepth 100000 in
set_option maxHeartbeats 2000000 in
theorem psingle_any (k n : Int) (s : ByteArray) (L V : List VT) (K : List ByteArray) (x y : Value) (w : World) (hg : GlobT w) (hn : -9223372036854775808 ≤ n ∧ n < 9223372036854775808) (hnode : nodeB (.mk k n s L K V) = true) (h5 : ¬ k = 5) (h6 : ¬ k = 6) :
    Calls Tryz.prog 72 #[.agg #[.int .i64 k, .int .i64 n, .string s, x, y]] w fun e w' => e = .returned (.string (mkS (tkS k n s).tx)) ∧ Below w.heap.size w w' := by
  have hal := valloc_bel (Below.refl w.heap.size w) (.cells #[.int .i64 k, .int .i64 n, .string s, x, y] 27)
  have C2 := hid (fun X (hX : Below w.heap.size w X) => format_any n X (hg.on hX) hn)
  have HAL := hid hal
  clear hal hg
  unfold nodeB nodeC at hnode
  simp only [VT.kd, VT.nm, VT.st, VT.ls, VT.ks, VT.vs] at hnode
  have C4 := hid (fun X (h : s.size ≤ 100000) => jquote_any s X h)
  have CB := hid (fun (b : Bool) X => Tryz.strconv_FormatBool b X)
  by_cases h0 : k = 0
  · subst h0
    go_enter Tryz.func72, Tryz.ntmps72
    go_wp2_with fail
    go_ret
    exact ⟨rfl, HAL.out⟩
  by_cases h1 : k = 1
  · subst h1
    by_cases hn1 : n = 1
    · subst hn1
      go_enter Tryz.func72, Tryz.ntmps72
      go_wp2_with (go_at_call 100; go_must (refine (CB.out _ _).mono ?_; rintro e w1 ⟨rfl, rfl⟩))
      go_ret
      exact ⟨rfl, HAL.out⟩
    · have e : (tkS 1 n s).tx = [102, 97, 108, 115, 101] := by unfold tkS; rw [if_pos rfl, if_neg hn1]; rfl
      rw [e]
      have hb : (n == 1) = false := by simpa using hn1
      go_enter Tryz.func72, Tryz.ntmps72
      go_wp2_with (go_at_call 100; go_must (refine (CB.out _ _).mono ?_; rintro e w1 ⟨rfl, rfl⟩))
      go_ret
      exact ⟨rfl, HAL.out⟩
  by_cases h2 : k = 2
  · subst h2
    go_enter Tryz.func72, Tryz.ntmps72
    go_wp2_with (go_at_call 101; go_must (refine (C2.out _ HAL.out).mono ?_; rintro e w1 ⟨rfl, hb1⟩))
    go_ret
    exact ⟨rfl, vonto HAL.out hb1⟩
  by_cases h3 : k = 3
  · subst h3
    have e : mkS (tkS 3 n s).tx = s := by
      unfold tkS; rw [if_neg (by decide), if_neg (by decide), if_pos rfl]; exact (mkS_of s _ rfl).symm
    rw [e]
    go_enter Tryz.func72, Tryz.ntmps72
    go_wp2_with fail
    go_ret
    exact ⟨rfl, HAL.out⟩
  by_cases h4 : k = 4
  · subst h4
    have hsz : s.size ≤ 100000 := by
      simp at hnode
      have := (te_vl hnode.1.1.2).2
      rw [size_list] at this; omega
    go_enter Tryz.func72, Tryz.ntmps72
    go_wp2_with (go_at_call 98; go_must (refine (C4.out _ hsz).mono ?_; rintro e w1 ⟨rfl, hb1⟩))
    go_ret
    exact ⟨rfl, vonto HAL.out hb1⟩
  by_cases h7 : k = 7
  · subst h7
    have hsz : s.size ≤ 100000 := by
      simp at hnode
      have := (stamp_vl hnode.1.1.2).2
      rw [size_list] at this; omega
    go_enter Tryz.func72, Tryz.ntmps72
    go_wp2_with (go_at_call 98; go_must (refine (C4.out _ hsz).mono ?_; rintro e w1 ⟨rfl, hb1⟩))
    go_ret
    exact ⟨rfl, vonto HAL.out hb1⟩
  · simp [h0, h1, h2, h3, h4, h7, h5, h6] at hnode
end Go.Proofs.YtkhjahpkbjafaaaGreatDoor
namespace Go.Proofs.YtkhjahpkbjafaaaGreatDoor
open Go.RowKit

/-- how deep a line is, if there are lines -/
def indO (inl : Bool) (k : Nat) : Option Nat := if inl then some k else none
theorem Pr.drew {w : World} {b : Nat} {l : List UInt8} {inl : Bool} (h : Pr w b l inl) : Pr w.drew b l inl := h
theorem Pr.lt {w : World} {b : Nat} {l : List UInt8} {inl : Bool} (h : Pr w b l inl) : b < w.heap.size := by
  obtain ⟨p, v, hb, -, -⟩ := h
  exact heap_lt hb
theorem Pr.flag {w : World} {b : Nat} {l : List UInt8} {inl : Bool} (h : Pr w b l inl) : w.cell? ⟨b, 2, none⟩ = some (.bool inl) := by
  obtain ⟨p, v, hb, -, -⟩ := h
  rw [cell_heap hb]; rfl
theorem Pr.on {w w' : World} {b : Nat} {l : List UInt8} {inl : Bool} (h : Pr w b l inl) (hb : Below w.heap.size w w') : Pr w' b l inl := by
  obtain ⟨p, v, hb', hp, hv⟩ := h
  exact ⟨p, v, (hb.block b (heap_lt hb')).trans hb', hp, ownsRow_below hv hb⟩
theorem Kp.of {b : Nat} {w w' : World} (hb : Below w.heap.size w w') (hlt : b ≤ w.heap.size) : Kp b w w' :=
  ⟨hb.mono hlt, fun k _ hk _ _ => (hb.block k (heap_lt hk)).trans hk, hb.size⟩
theorem Kp.drew {b : Nat} (w : World) : Kp b w w.drew := ⟨(Below.refl _ _).drew, Lib.OthersKept.refl _ _ _, Nat.le_refl _⟩
theorem rep_two : ∀ k : Nat, Lib.repeatL [32, 32] k = List.replicate (2 * k) 32
  | 0 => rfl
  | k + 1 => by
    have ih := rep_two k
    rw [show Lib.repeatL [32, 32] (k + 1) = [32, 32] ++ Lib.repeatL [32, 32] k from rfl, ih, show ([32, 32] : List UInt8) = List.replicate 2 32 from rfl, List.replicate_append_replicate]
    congr 1; omega
theorem repeat_any (k : Nat) (w : World) (hk : k ≤ 10000) :
    Calls Tryz.prog 125 #[.string ⟨#[32, 32]⟩, .int .i64 (k : Int)] w fun e w' => e = .returned (.string (mkS (List.replicate (2 * k) 32))) ∧ Below w.heap.size w w' := by
  refine (Tryz.strings_Repeat ⟨#[32, 32]⟩ k w (by omega) (by show 2 * k ≤ _; omega)).mono ?_
  rintro e w' ⟨rfl, hb⟩
  exact ⟨by rw [show (⟨#[32, 32]⟩ : ByteArray).data.toList = [32, 32] from rfl, rep_two]; rfl, hb⟩
set_option maxRecDepth 100000 in
set_option maxHeartbeats 2000000 in
theorem pline_any (b : Nat) (l : List UInt8) (inl : Bool) (k : Nat) (w : World) (h : Pr w b l inl) (hk : k ≤ 10000) (hl : l.length ≤ 1000000000000) :
    Calls Tryz.prog 97 #[.pointer (some ⟨b, 0, none⟩), .int .i64 (k : Int)] w fun e w' => e = .returned (.tuple #[]) ∧ Pr w' b (l ++ txs (lnT (indO inl k))) inl ∧ Kp b w w' := by
  have f2 := h.flag
  have HP := hid h
  have hlt := h.lt
  clear h
  cases inl with
  | false =>
    go_enter Tryz.func97, Tryz.ntmps97
    go_wp2
    go_end0
    refine ⟨rfl, ?_, Kp.refl _ _⟩
    have e : l ++ txs (lnT (indO false k)) = l := by simp [indO, lnT, txs]
    rw [e]; exact HP.out
  | true =>
    have CR := hid (fun X => repeat_any k X hk)
    obtain ⟨rp, hrp⟩ : ∃ rp, mkS (List.replicate (2 * k) 32) = rp := ⟨_, rfl⟩
    rw [hrp] at CR
    have hrs : rp.size ≤ 20000 := by rw [← hrp, mkS_size, List.length_replicate]; omega
    have CW := hid (fun X (hX : Pr X b l true) => pwrite_any b l true ((⟨#[10]⟩ : ByteArray) ++ rp) X hX (by rw [ByteArray.size_append]; show l.length + (1 + rp.size) ≤ _; omega))
    have HE := hid (show ((⟨#[10]⟩ : ByteArray) ++ rp).data.toList = txs (lnT (indO true k)) by
      rw [← hrp, show (⟨#[10]⟩ : ByteArray) = mkS [10] from rfl, mkS_app, mkS_list]; simp [indO, ln_some])
    clear hrp
    go_enter Tryz.func97, Tryz.ntmps97
    go_upto_region 1 with fail
    refine wp_region_h (S := fun X => Kp b w X) 7 (by kernel_rfl) (by kernel_rfl) ?_
    have hS0 : Kp b w w.drew := Kp.drew w
    refine take_h (i := 0) (v := ?_) rfl (by kernel_rfl) (by kernel_rfl) (by kernel_rfl) (fun _ _ _ h => h) (by rfl) ?_ hS0 ?_
    rotate_left
    · (intro X hX; go_simp; try with_reducible rfl)
    simp only [Act.put, List.setIfInBounds_toArray, List.set_cons_zero, List.set_cons_succ]
    refine take_h (i := 1) (v := ?_) rfl (by kernel_rfl) (by kernel_rfl) (by kernel_rfl) (fun _ _ _ h => h) (by rfl) ?_ hS0 ?_
    rotate_left
    · (intro X hX; go_simp; try with_reducible rfl)
    simp only [Act.put, List.setIfInBounds_toArray, List.set_cons_zero, List.set_cons_succ]
    refine take_h (i := 2) (v := ?_) rfl (by kernel_rfl) (by kernel_rfl) (by kernel_rfl) (fun _ _ _ h => h) (by rfl) ?_ hS0 ?_
    rotate_left
    · (intro X hX; go_simp; try with_reducible rfl)
    simp only [Act.put, List.setIfInBounds_toArray, List.set_cons_zero, List.set_cons_succ]
    refine take_h (i := 3) (v := ?_) rfl (by kernel_rfl) (by kernel_rfl) (by kernel_rfl) (fun _ _ _ h => h) (by rfl) ?_ hS0 ?_
    rotate_left
    · (intro X hX; go_simp; try with_reducible rfl)
    simp only [Act.put, List.setIfInBounds_toArray, List.set_cons_zero, List.set_cons_succ]
    refine step_h (i := 4) rfl (by kernel_rfl) ?_
    intro KK hKK
    go_simp
    go_wp2_with (go_at_call 125; go_must (refine (CR.out _).mono ?_; rintro e w1 ⟨rfl, hb1⟩))
    have hS1 : Kp b w w1 := hS0.trans (Kp.of hb1 (Nat.le_of_lt HP.out.drew.lt))
    have HP1 := hid (HP.out.drew.on hb1)
    refine hKK.out _ _ hS1 (fun _ => ?_)
    clear hKK KK
    refine step_h (i := 5) rfl (by kernel_rfl) ?_
    intro KK hKK
    go_simp
    go_wp2_with fail
    refine hKK.out _ _ hS1 (fun _ => ?_)
    clear hKK KK
    refine step_h (i := 6) rfl (by kernel_rfl) ?_
    intro KK hKK
    go_simp
    go_wp2_with (go_at_call 71; go_must (refine (CW.out _ HP1.out).mono ?_; rintro e w2 ⟨rfl, hp2, hk2⟩))
    have hS2 : Kp b w w2 := hS1.trans hk2
    refine hKK.out _ _ hS2 (fun _ => ?_)
    clear hKK KK
    refine wpAnyH_done (by kernel_rfl) ?_ _
    go_wp2
    go_end0
    rw [HE.out] at hp2
    exact ⟨rfl, hp2, hS2⟩
end Go.Proofs.YtkhjahpkbjafaaaGreatDoor
namespace Go.Proofs.YtkhjahpkbjafaaaGreatDoor
open Go.RowKit

theorem cln_true : txs (clnT (indO true 0)) = [58, 32] := rfl
theorem cln_false : txs (clnT (indO false 0)) = [58] := rfl
set_option maxRecDepth 100000 in
set_option maxHeartbeats 2000000 in
theorem pkey_any (b : Nat) (l : List UInt8) (inl : Bool) (key : ByteArray) (w : World) (h : Pr w b l inl) (hk : key.size ≤ 4096) (hl : l.length ≤ 1000000000000) :
    Calls Tryz.prog 70 #[.pointer (some ⟨b, 0, none⟩), .string key] w fun e w' => e = .returned (.tuple #[]) ∧ Pr w' b (l ++ (qtA false key.data.toList ++ txs (clnT (indO inl 0)))) inl ∧ Kp b w w' := by
  have HP := hid h
  have hlt := h.lt
  clear h
  have CR := hid (fun X => jquote_any key X (by omega))
  obtain ⟨rp, hrp⟩ : ∃ rp, mkS (qtA false key.data.toList) = rp := ⟨_, rfl⟩
  rw [hrp] at CR
  have hrs : rp.size ≤ 30000 := by
    rw [← hrp, mkS_size]
    unfold qtA
    have h2 := qtK_len false key.data.toList (cnt key.data.toList)
    have h3 := cnt_le key.data.toList
    rw [size_list] at h3
    rw [List.length_append, List.length_singleton]; omega
  have CW := hid (fun X (hX : Pr X b l inl) => pwrite_any b l inl (rp ++ (⟨#[58]⟩ : ByteArray)) X hX (by rw [ByteArray.size_append]; show l.length + (rp.size + 1) ≤ _; omega))
  have CW2 := hid (fun X (hX : Pr X b (l ++ (rp ++ (⟨#[58]⟩ : ByteArray)).data.toList) inl) => pwrite_any b _ inl (⟨#[32]⟩ : ByteArray) X hX (by rw [List.length_append, size_list, ByteArray.size_append]; show l.length + (rp.size + 1) + 1 ≤ _; omega))
  have HE := hid (show (rp ++ (⟨#[58]⟩ : ByteArray)).data.toList = qtA false key.data.toList ++ [58] by
    rw [← hrp, show (⟨#[58]⟩ : ByteArray) = mkS [58] from rfl, mkS_app, mkS_list])
  clear hrp
  go_enter Tryz.func70, Tryz.ntmps70
  go_upto_region 0 with fail
  refine wp_region_h (S := fun X => Kp b w X) 7 (by kernel_rfl) (by kernel_rfl) ?_
  have hS0 : Kp b w w.drew := Kp.drew w
  refine take_h (i := 0) (v := ?_) rfl (by kernel_rfl) (by kernel_rfl) (by kernel_rfl) (fun _ _ _ h => h) (by rfl) ?_ hS0 ?_
  rotate_left
  · (intro X hX; go_simp; try with_reducible rfl)
  simp only [Act.put, List.setIfInBounds_toArray, List.set_cons_zero, List.set_cons_succ]
  refine take_h (i := 1) (v := ?_) rfl (by kernel_rfl) (by kernel_rfl) (by kernel_rfl) (fun _ _ _ h => h) (by rfl) ?_ hS0 ?_
  rotate_left
  · (intro X hX; go_simp; try with_reducible rfl)
  simp only [Act.put, List.setIfInBounds_toArray, List.set_cons_zero, List.set_cons_succ]
  refine take_h (i := 2) (v := ?_) rfl (by kernel_rfl) (by kernel_rfl) (by kernel_rfl) (fun _ _ _ h => h) (by rfl) ?_ hS0 ?_
  rotate_left
  · (intro X hX; go_simp; try with_reducible rfl)
  simp only [Act.put, List.setIfInBounds_toArray, List.set_cons_zero, List.set_cons_succ]
  refine take_h (i := 3) (v := ?_) rfl (by kernel_rfl) (by kernel_rfl) (by kernel_rfl) (fun _ _ _ h => h) (by rfl) ?_ hS0 ?_
  rotate_left
  · (intro X hX; go_simp; try with_reducible rfl)
  simp only [Act.put, List.setIfInBounds_toArray, List.set_cons_zero, List.set_cons_succ]
  refine step_h (i := 4) rfl (by kernel_rfl) ?_
  intro KK hKK
  go_simp
  go_wp2_with (go_at_call 98; go_must (refine (CR.out _).mono ?_; rintro e w1 ⟨rfl, hb1⟩))
  have hS1 : Kp b w w1 := hS0.trans (Kp.of hb1 (Nat.le_of_lt HP.out.drew.lt))
  have HP1 := hid (HP.out.drew.on hb1)
  refine hKK.out _ _ hS1 (fun _ => ?_)
  clear hKK KK
  refine step_h (i := 5) rfl (by kernel_rfl) ?_
  intro KK hKK
  go_simp
  go_wp2_with fail
  refine hKK.out _ _ hS1 (fun _ => ?_)
  clear hKK KK
  refine step_h (i := 6) rfl (by kernel_rfl) ?_
  intro KK hKK
  go_simp
  go_wp2_with (go_at_call 71; go_must (refine (CW.out _ HP1.out).mono ?_; rintro e w2 ⟨rfl, hp2, hk2⟩))
  have hS2 : Kp b w w2 := hS1.trans hk2
  refine hKK.out _ _ hS2 (fun _ => ?_)
  clear hKK KK
  refine wpAnyH_done (by kernel_rfl) ?_ _
  have f2 := hp2.flag
  have HP2 := hid hp2
  have HS2 := hid hS2
  clear hp2 hS2 hS1 hS0 hb1 hk2
  cases inl with
  | false =>
    go_wp2
    go_end0
    refine ⟨rfl, ?_, HS2.out⟩
    rw [cln_false, ← HE.out]; exact HP2.out
  | true =>
    go_wp2_with (go_at_call 71; go_must (refine (CW2.out _ HP2.out).mono ?_; rintro e w3 ⟨rfl, hp3, hk3⟩))
    go_end0
    refine ⟨rfl, ?_, HS2.out.trans hk3⟩
    rw [HE.out] at hp3
    have e : l ++ (qtA false key.data.toList ++ txs (clnT (indO true 0))) = l ++ (qtA false key.data.toList ++ [58]) ++ (⟨#[32]⟩ : ByteArray).data.toList := by rw [cln_true]; simp
    rw [e]; exact hp3
end Go.Proofs.YtkhjahpkbjafaaaGreatDoor
namespace Go.Proofs.YtkhjahpkbjafaaaGreatDoor
open Go.RowKit

/-- what is written of so many parts -/
def ptB (inl : Bool) (k : Nat) (G : Nat → List UInt8) : Nat → List UInt8
  | 0 => []
  | j + 1 => ptB inl k G j ++ ((if j = 0 then [] else [44]) ++ (txs (lnT (indO inl (k + 1))) ++ G j))
theorem ptB_mono {inl : Bool} {k : Nat} {G : Nat → List UInt8} {i j : Nat} (h : i ≤ j) : (ptB inl k G i).length ≤ (ptB inl k G j).length := by
  induction h with
  | refl => exact Nat.le_refl _
  | step _ ih => rw [ptB, List.length_append]; omega
set_option maxRecDepth 100000 in
set_option maxHeartbeats 4000000 in
theorem pparts_any (F : Nat) (caps : Array Value) (b : Nat) (inl : Bool) (o c : UInt8) (N k : Nat) (G : Nat → List UInt8) (l : List UInt8) (w : World)
    (eF : ∀ args w, (callFunc F args).run Tryz.prog w = .ok (.enter F args) w)
    (hF : ∀ (j : Nat) (l' : List UInt8) (X : World), j < N → Kp b w X → Pr X b l' inl → l'.length ≤ l.length + (ptB inl k G N).length + 30000 → Calls Tryz.prog F (#[.int .i64 (j : Int)] ++ caps) X fun e w' => e = .returned (.tuple #[]) ∧ Pr w' b (l' ++ G j) inl ∧ Kp b X w')
    (h : Pr w b l inl) (hk : k ≤ 9999) (hN : N ≤ 1000000) (hl : l.length + 1 + (ptB inl k G N).length ≤ 400000000000) :
    Calls Tryz.prog 67 #[.pointer (some ⟨b, 0, none⟩), .string ⟨#[o]⟩, .string ⟨#[c]⟩, .int .i64 (N : Int), .int .i64 (k : Int), .func (.func F) #[] caps] w fun e w' =>
      e = .returned (.tuple #[]) ∧ Pr w' b (l ++ (o :: (ptB inl k G N ++ ((if N = 0 then [] else txs (lnT (indO inl k))) ++ [c])))) inl ∧ Kp b w w' := by
  have HF := hid hF
  have HP := hid h
  have HLE : Hid (∀ j, j ≤ N → (ptB inl k G j).length ≤ (ptB inl k G N).length) := fun j hj => ptB_mono hj
  have hln : ∀ m, m ≤ 10000 → (txs (lnT (indO inl m))).length ≤ 20001 := fun m hm => by
    cases inl
    · simp [indO, lnT, txs]
    · simp [indO, ln_some]; omega
  have HLN := hid hln
  have CW := hid (fun (m : UInt8) (l' : List UInt8) X (hX : Pr X b l' inl) (hl' : l'.length ≤ 500000000000) => pwrite_any b l' inl (⟨#[m]⟩ : ByteArray) X hX (by show l'.length + 1 ≤ _; omega))
  have CL := hid (fun (m : Nat) (l' : List UInt8) X (hm : m ≤ 10000) (hX : Pr X b l' inl) (hl' : l'.length ≤ 500000000000) => pline_any b l' inl m X hX hm (by omega))
  clear hF h hln
  go_enter Tryz.func67, Tryz.ntmps67
  go_wp2_with fail
  go_at_call 71
  refine (CW.out o l _ HP.out (by omega)).mono ?_
  rintro e w1 ⟨rfl, hp1, hk1⟩
  have HP1 := hid hp1
  have HK1 := hid hk1
  clear hp1 hk1
  go_wp2_with fail
  go_loopw [12, 19] (fun _ iv wr => ∃ j : Nat, j ≤ N ∧ iv = .int .i64 j ∧ Hid (Pr wr b (l ++ (o :: ptB inl k G j)) inl) ∧ Hid (Kp b w wr)) (fun _ iv _ => N - (intOf iv).toNat)
  case atStart => exact ⟨0, Nat.zero_le _, rfl, HP1, HK1⟩
  case round =>
    obtain ⟨j, hj, rfl, HPJ, HKJ⟩ := hrel
    have hlj := HLE.out j hj
    have hpl : (l ++ (o :: ptB inl k G j)).length = l.length + 1 + (ptB inl k G j).length := by rw [List.length_append, List.length_cons]; omega
    by_cases hlt : j < N
    · have hl1 := HLN.out (k + 1) (by omega)
      have HNX : Hid (∀ A : List UInt8, A = l ++ (o :: ptB inl k G j) → A ++ (if j = 0 then [] else [44]) ++ txs (lnT (indO inl (k + 1))) ++ G j = l ++ (o :: ptB inl k G (j + 1))) := fun A hA => by rw [hA, ptB]; simp
      by_cases h0 : j = 0
      · subst h0
        go_wp2_with fail
        go_at_call 97
        refine (CL.out (k + 1) _ _ (by omega) HPJ.out (by omega)).mono ?_
        rintro e w2 ⟨rfl, hp2, hk2⟩
        have CF := hid (HF.out 0 _ w2 hlt (HKJ.out.trans hk2) hp2 (by rw [List.length_append]; omega))
        have HK2 := hid (HKJ.out.trans hk2)
        clear hp2 hk2
        go_wp2_with fail
        refine CF.out.mono ?_
        rintro e w3 ⟨rfl, hp3, hk3⟩
        have HP3 := hid hp3
        have HK3 := hid (HK2.out.trans hk3)
        clear hp3 hk3 CF
        go_wp2_with fail
        go_roundw
        case rel =>
          refine ⟨0 + 1, by omega, val_int (by omega), ?_, HK3.out⟩
          have e := HNX.out _ rfl
          rw [if_pos trivial, List.append_nil] at e
          show Pr _ _ _ _
          rw [← e]; exact HP3.out
        case measure => simp [intOf]; omega
      · have hj0 : 0 < j := by omega
        go_wp2_with fail
        go_at_call 71
        refine (CW.out 44 _ _ HPJ.out (by omega)).mono ?_
        rintro e w5 ⟨rfl, hp5, hk5⟩
        have HP5 := hid hp5
        have HK5 := hid (HKJ.out.trans hk5)
        clear hp5 hk5
        go_wp2_with fail
        go_at_call 97
        refine (CL.out (k + 1) _ _ (by omega) HP5.out (by rw [List.length_append]; show _ + 1 ≤ _; omega)).mono ?_
        rintro e w2 ⟨rfl, hp2, hk2⟩
        have CF := hid (HF.out j _ w2 hlt (HK5.out.trans hk2) hp2 (by rw [List.length_append, List.length_append]; show _ + 1 + _ ≤ _; omega))
        have HK2 := hid (HK5.out.trans hk2)
        clear hp2 hk2
        go_wp2_with fail
        refine CF.out.mono ?_
        rintro e w3 ⟨rfl, hp3, hk3⟩
        have HP3 := hid hp3
        have HK3 := hid (HK2.out.trans hk3)
        clear hp3 hk3 CF
        go_wp2_with fail
        go_roundw
        case rel =>
          refine ⟨j + 1, by omega, val_int (by omega), ?_, HK3.out⟩
          have e := HNX.out _ rfl
          rw [if_neg h0] at e
          show Pr _ _ _ _
          rw [← e]; exact HP3.out
        case measure => simp [intOf]; omega
    · obtain rfl : j = N := by omega
      by_cases h0 : j = 0
      · subst h0
        go_wp2_with fail
        go_at_call 71
        refine (CW.out c _ _ HPJ.out (by omega)).mono ?_
        rintro e w5 ⟨rfl, hp5, hk5⟩
        have HP5 := hid hp5
        have HK5 := hid (HKJ.out.trans hk5)
        clear hp5 hk5
        go_wp2_with fail
        first | go_end0 | refine bodyPost_ret (results_none rfl _ _ _) rfl ?_
        refine ⟨rfl, ?_, HK5.out⟩
        have e : l ++ (o :: (ptB inl k G 0 ++ [c])) = l ++ (o :: ptB inl k G 0) ++ (⟨#[c]⟩ : ByteArray).data.toList := by simp
        rw [e]; exact HP5.out
      · have hj0 : 0 < j := by omega
        have hl1 := HLN.out k (by omega)
        go_wp2_with fail
        go_at_call 97
        refine (CL.out k _ _ (by omega) HPJ.out (by omega)).mono ?_
        rintro e w4 ⟨rfl, hp4, hk4⟩
        have HP4 := hid hp4
        have HK4 := hid (HKJ.out.trans hk4)
        clear hp4 hk4
        go_wp2_with fail
        go_at_call 71
        refine (CW.out c _ _ HP4.out (by rw [List.length_append]; omega)).mono ?_
        rintro e w5 ⟨rfl, hp5, hk5⟩
        have HP5 := hid hp5
        have HK5 := hid (HK4.out.trans hk5)
        clear hp5 hk5
        go_wp2_with fail
        first | go_end0 | refine bodyPost_ret (results_none rfl _ _ _) rfl ?_
        refine ⟨rfl, ?_, HK5.out⟩
        have e : l ++ (o :: (ptB inl k G j ++ (txs (lnT (indO inl k)) ++ [c]))) = l ++ (o :: ptB inl k G j) ++ txs (lnT (indO inl k)) ++ (⟨#[c]⟩ : ByteArray).data.toList := by simp
        rw [e]; exact HP5.out
end Go.Proofs.YtkhjahpkbjafaaaGreatDoor
