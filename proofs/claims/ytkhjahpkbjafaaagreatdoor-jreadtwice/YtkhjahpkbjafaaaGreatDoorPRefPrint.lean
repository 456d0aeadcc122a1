/- The document's own writing of whole numbers, walked: Text. -/
import Derived.Test.YtkhjahpkbjafaaaGreatDoorPRefOne
import Derived.Test.YtkhjahpkbjafaaaGreatDoorPRefDec
import Derived.Deep.RegionWith
import Derived.Test.YtkhjahpkbjafaaaGreatDoorPMathCutV
import Derived.Test.YtkhjahpkbjafaaaGreatDoorPEscRQ2
/- The document's own printer of JSON, walked: line, Print. -/
namespace Go.Proofs.YtkhjahpkbjafaaaGreatDoor
open Go.RowKit

/-- one cell, read as a text -/
theorem conv_at (w : World) (g : Nat) (x : Int) (hc : w.cell? ⟨g, 0, none⟩ = some (.int .u8 x)) :
    (convert 34 9 (.slice (some ⟨g, 0, none⟩) 1 1)).run Tryz.prog w = .ok (.string (strOfNums [x])) w := by
  refine run_convert_bytes_arg _ 34 5 Tryz.underlying34 Tryz.underlying5 _ 0 1 1 [x] rfl (fun i hi => ?_) 9 Tryz.underlying9
  obtain rfl : i = 0 := by omega
  rw [hc]; rfl
theorem natD_small (n : Nat) (h : n < 10) : natD n = [UInt8.ofNat (48 + n)] := by rw [natD, if_pos h]
theorem natD_big (n : Nat) (h : ¬ n < 10) : natD n = natD (n / 10) ++ [UInt8.ofNat (48 + n % 10)] := by rw [natD, if_neg h]
theorem natD_len : ∀ (k n : Nat), n < 10 ^ (k + 1) → (natD n).length ≤ k + 1
  | 0, n, h => by rw [natD_small n (by omega)]; simp
  | k + 1, n, h => by
    by_cases hn : n < 10
    · rw [natD_small n hn]; simp
    · rw [natD_big n hn, List.length_append]
      have := natD_len k (n / 10) (by rw [Nat.pow_succ] at h; omega)
      simp; omega
theorem ofNat_int (n : Int) (h : 0 ≤ n) : UInt8.ofNat (48 + n.toNat) = UInt8.ofNat (48 + n).toNat := by congr 1; omega
theorem nums_int (x : Int) : strOfNums [x] = mkS [UInt8.ofNat x.toNat] := by
  apply mkS_of; simp [strOfNums]
set_option maxRecDepth 100000 in
set_option maxHeartbeats 1000000 in
theorem text_pos : ∀ (k : Nat) (n : Int), 0 ≤ n → n < 10 ^ (k + 1) → n < 9223372036854775808 → ∀ (w : World),
    Calls Tryz.prog 19 #[.int .i64 n] w fun e w' => e = .returned (.string (mkS (natD n.toNat))) ∧ Below w.heap.size w w' := by
  intro k
  induction k with
  | zero =>
    intro n h0 h10 _ w
    have h1 : n < 10 := by omega
    have h2 : ¬ n < 0 := by omega
    have ho : (48 + n) % 256 = 48 + n := by omega
    have hcv := conv_new w [48 + n] 1 rfl
    simp only [List.map] at hcv
    rw [nums_int, ← ofNat_int n h0, ← natD_small n.toNat (by omega)] at hcv
    clear h10
    go_enter Tryz.func19, Tryz.ntmps19
    go_wp2_with fail
    go_ret
    exact ⟨rfl, (Below.refl _ _).alloc (Nat.le_refl _) _⟩
  | succ k ih =>
    intro n h0 hk hm w
    have h2 : ¬ n < 0 := by omega
    by_cases h1 : n < 10
    · have ho : (48 + n) % 256 = 48 + n := by omega
      have hcv := conv_new w [48 + n] 1 rfl
      simp only [List.map] at hcv
      rw [nums_int, ← ofNat_int n h0, ← natD_small n.toNat (by omega)] at hcv
      clear hk ih
      go_enter Tryz.func19, Tryz.ntmps19
      go_wp2_with fail
      go_ret
      exact ⟨rfl, (Below.refl _ _).alloc (Nat.le_refl _) _⟩
    · have ho : (48 + n % 10) % 256 = 48 + n % 10 := by omega
      have hq0 : 0 ≤ n / 10 := by omega
      have IH := hid (ih (n / 10) hq0 (by rw [Int.pow_succ] at hk; omega) (by omega))
      clear ih hk
      have hl1 : (natD (n / 10).toNat).length ≤ 19 := natD_len 18 _ (by omega)
      have hs1 : (mkS (natD (n / 10).toNat)).size ≤ 19 := by rw [mkS_size]; exact hl1
      have hs2 : (mkS [UInt8.ofNat (48 + n % 10).toNat]).size = 1 := mkS_size _
      have HA := hid (show mkS (natD (n / 10).toNat) ++ mkS [UInt8.ofNat (48 + n % 10).toNat] = mkS (natD n.toNat) by
        rw [mkS_add, natD_big n.toNat (by omega), show (n / 10).toNat = n.toNat / 10 by omega, show (48 + n % 10).toNat = 48 + n.toNat % 10 by omega])
      have hcv0 := conv_at (w.alloc (.cells #[.int .u8 (48 + n % 10)] 5)).drew w.heap.size (48 + n % 10) (new_cells w [.int .u8 (48 + n % 10)] 5 0 _ rfl)
      rw [nums_int] at hcv0
      have hwq : IntKind.i64.wrap (n.tdiv 10) = n / 10 := by rw [Int.tdiv_eq_ediv_of_nonneg h0, wraps_i64 _ hq0 (by omega)]
      have hwr : n.tmod 10 = n % 10 := Int.tmod_eq_emod_of_nonneg h0
      have hwu : IntKind.u8.wrap (48 + n % 10) = 48 + n % 10 := by rw [IntKind.wrap_u8]; omega
      have hwa : IntKind.i64.wrap (48 + n % 10) = 48 + n % 10 := wraps_i64 _ (by omega) (by omega)
      clear hl1
      go_enter Tryz.func19, Tryz.ntmps19
      go_wp2_with fail
      go_region_with (go_at_call 19; go_must (refine (IH.out _).mono ?_; rintro e w1 ⟨rfl, hb1⟩; have hcv1 := conv_new w1 [48 + n % 10] 1 rfl; simp only [List.map, nums_int] at hcv1; try (have hcv2 := conv_at w1 w.heap.size (48 + n % 10) ((hb1.cell (p := ⟨w.heap.size, 0, none⟩) (by simp)).trans (new_cells w.drew [.int .u8 (48 + n % 10)] 5 0 _ rfl)); rw [nums_int] at hcv2)))
      all_goals
        go_wp2_with fail
        go_ret
        refine ⟨by rw [← HA.out]; rfl, ?_⟩
        first
          | exact ((Below.refl _ _).drew.trans hb1).alloc hb1.size _
          | exact (((Below.refl _ _).alloc (Nat.le_refl _) _).drew).trans (hb1.mono (by simp))
theorem natD_top : mkS (45 :: natD 9223372036854775808) = ⟨#[45, 57, 50, 50, 51, 51, 55, 50, 48, 51, 54, 56, 53, 52, 55, 55, 53, 56, 48, 56]⟩ := by
  decide +kernel
theorem natD_txt (n : Int) (h : n < 0) : (⟨#[45]⟩ : ByteArray) ++ mkS (natD (-n).toNat) = mkS (txt n) := by
  unfold txt; rw [if_pos h, show (⟨#[45]⟩ : ByteArray) = mkS [45] by rfl, mkS_add]; rfl
set_option maxRecDepth 100000 in
set_option maxHeartbeats 1000000 in
theorem text_any (n : Int) (w : World) (h1 : -9223372036854775808 ≤ n) (h2 : n < 9223372036854775808) :
    Calls Tryz.prog 19 #[.int .i64 n] w fun e w' => e = .returned (.string (mkS (txt n))) ∧ Below w.heap.size w w' := by
  by_cases h0 : n < 0
  · by_cases hm : n = -9223372036854775808
    · subst hm
      have H := hid (show mkS (txt (-9223372036854775808)) = _ from natD_top)
      rw [H.out]
      go_enter Tryz.func19, Tryz.ntmps19
      go_wp2_with fail
      go_ret
      exact ⟨rfl, Below.refl _ _⟩
    · have hm' : (n == -9223372036854775808) = false := by simpa using hm
      have H := hid (natD_txt n h0)
      have hs1 : (mkS (natD (-n).toNat)).size ≤ 19 := by rw [mkS_size]; exact natD_len 18 _ (by omega)
      have IH := hid (text_pos 18 (-n) (by omega) (by omega) (by omega))
      have hx : -9223372036854775808 < n := by omega
      clear hm
      go_enter Tryz.func19, Tryz.ntmps19
      go_wp2_with (go_at_call 19; go_must (refine (IH.out _).mono ?_; rintro e w1 ⟨rfl, hb1⟩))
      go_ret
      exact ⟨by rw [← H.out]; rfl, hb1⟩
  · have e : txt n = natD n.toNat := by unfold txt; rw [if_neg h0]
    rw [e]
    exact text_pos 18 n (by omega) (by omega) h2 w
end Go.Proofs.YtkhjahpkbjafaaaGreatDoor
namespace Go.Proofs.YtkhjahpkbjafaaaGreatDoor
open Go.RowKit

def inI : Option Nat → Int
  | none => -1
  | some k => (k : Int)
theorem ln_some (k : Nat) : txs (lnT (some k)) = 10 :: List.replicate (2 * k) 32 := by simp [lnT, txs, Tk.tx]
theorem ln_next (j : Nat) : mkS (10 :: List.replicate (2 * j) 32) ++ (⟨#[32, 32]⟩ : ByteArray) = mkS (10 :: List.replicate (2 * (j + 1)) 32) := by
  rw [show (⟨#[32, 32]⟩ : ByteArray) = mkS [32, 32] from rfl, mkS_app, show 2 * (j + 1) = 2 * j + 2 from by omega, List.cons_append, show ([32, 32] : List UInt8) = List.replicate 2 32 from rfl, List.replicate_append_replicate]
set_option maxRecDepth 100000 in
set_option maxHeartbeats 1000000 in
theorem line8_any (i : Option Nat) (w : World) (hk : ∀ k, i = some k → k ≤ 10000) :
    Calls Tryz.prog 33 #[.int .i64 (inI i)] w fun e w' => e = .returned (.string (mkS (txs (lnT i)))) ∧ w' = w := by
  cases i with
  | none =>
    simp only [inI]
    go_enter Tryz.func33, Tryz.ntmps33
    go_wp2_with fail
    go_ret
    exact ⟨rfl, rfl⟩
  | some k =>
    have hk1 := hk k rfl
    clear hk
    rw [ln_some]
    simp only [inI]
    go_enter Tryz.func33, Tryz.ntmps33
    go_wp2_with fail
    go_loop [3, 4] (fun s x => ∃ (j : Nat) (m : ByteArray), j ≤ k ∧ x = .int .i64 j ∧ s = .string m ∧ m.size ≤ 2 * j + 1 ∧ Hid (m = mkS (10 :: List.replicate (2 * j) 32))) (fun _ x => k - (intOf x).toNat)
    case atStart => exact ⟨0, _, by omega, rfl, rfl, by decide, rfl⟩
    case round =>
      obtain ⟨j, m, hj, rfl, rfl, hm, HM⟩ := hrel
      by_cases hlt : j < k
      · go_wp2_with fail
        go_round
        case rel => exact ⟨j + 1, m ++ (⟨#[32, 32]⟩ : ByteArray), by omega, val_int (by omega), rfl, by rw [ByteArray.size_append]; show m.size + 2 ≤ _; omega, by show _ = _; rw [HM.out, ln_next]⟩
        case measure => simp [intOf]; omega
      · obtain rfl : j = k := by omega
        go_wp2_with fail
        go_ret
        exact ⟨ret_st HM.out, rfl⟩

/-- what stands ahead of a part: a comma, but for the first, and a new line -/
def sepT (i : Option Nat) (b : Bool) : List Tk := (if b = true then [] else [.sg 44]) ++ lnT i
theorem tkLc_app (i : Option Nat) : ∀ (A B : List VT), tkLc i (A ++ B) = tkLc i A ++ tkLc i B
  | [], B => by rw [tkLc]; rfl
  | t :: A, B => by rw [List.cons_append, tkLc, tkLc, tkLc_app i A B]; simp
theorem tkL_snoc (i : Option Nat) (A : List VT) (t : VT) : tkL i (A ++ [t]) = tkL i A ++ (sepT i A.isEmpty ++ tkV i t) := by
  cases A with
  | nil => simp [tkL, tkLc, sepT]
  | cons a A => simp [tkL, tkLc_app, tkLc, sepT]
theorem tkMc_app (i : Option Nat) : ∀ (A B : List VT) (K J : List ByteArray), K.length = A.length → tkMc i (A ++ B) (K ++ J) = tkMc i A K ++ tkMc i B J
  | [], B, [], J, _ => by rw [show tkMc i [] [] = [] from by rw [tkMc]]; rfl
  | [], B, c :: K, J, h => by simp at h
  | t :: A, B, [], J, h => by simp at h
  | t :: A, B, c :: K, J, h => by
    rw [List.cons_append, List.cons_append, tkMc, tkMc, List.tail_cons, List.tail_cons, tkMc_app i A B K J (by simpa using h)]; simp
theorem tkM_snoc (i : Option Nat) (A : List VT) (t : VT) (K : List ByteArray) (c : ByteArray) (h : K.length = A.length) : tkM i (A ++ [t]) (K ++ [c]) = tkM i A K ++ (sepT i A.isEmpty ++ (.st c.data.toList :: (clnT i ++ tkV i t))) := by
  cases A with
  | nil =>
    cases K with
    | nil => simp [tkM, tkMc, sepT]
    | cons c K => simp at h
  | cons a A =>
    cases K with
    | nil => simp at h
    | cons d K =>
      rw [List.cons_append, List.cons_append, tkM, tkM, List.tail_cons, List.tail_cons, tkMc_app i A [t] K [c] (by simpa using h)]
      simp [tkMc, sepT]
theorem take_next {α : Type} {L : List α} {j : Nat} {t : α} (h : L[j]? = some t) : L.take (j + 1) = L.take j ++ [t] := by
  obtain ⟨hj, rfl⟩ := List.getElem?_eq_some_iff.1 h
  rw [List.take_succ_eq_append_getElem hj]
theorem take_emp {α : Type} {L : List α} {j : Nat} (hj : j ≤ L.length) : (L.take j).isEmpty = decide (j = 0) := by
  cases j with
  | zero => simp
  | succ j =>
    cases L with
    | nil => simp at hj
    | cons a L => simp
/-- a list's text, so far -/
def lsB (i : Option Nat) (L : List VT) (j : Nat) : List UInt8 := 91 :: txs (tkL (upN i) (L.take j))
theorem lsB_next {i : Option Nat} {L : List VT} {j : Nat} {t : VT} (h : L[j]? = some t) : lsB i L (j + 1) = lsB i L j ++ ((if j = 0 then [] else [44]) ++ (txs (lnT (upN i)) ++ txs (tkV (upN i) t))) := by
  unfold lsB
  rw [take_next h, tkL_snoc, txs_app, txs_app, take_emp (by have := lt_of_some h; omega), sepT, txs_app]
  by_cases h0 : j = 0
  · subst h0; simp [txs]
  · simp [h0, txs, Tk.tx]
theorem lsB_end {i : Option Nat} {n : Int} {s : ByteArray} {L : List VT} {K : List ByteArray} {V : List VT} (h : ¬ L = []) : txs (tkV i (.mk 5 n s L K V)) = lsB i L L.length ++ (txs (lnT i) ++ [93]) := by
  rw [tkV, if_pos rfl, txs_sg, txs_app, txs_app, lsB, List.take_length, if_neg (by simpa using h)]
  simp [txs, Tk.tx]
theorem tkL_pre (i : Option Nat) (L : List VT) (j : Nat) : txs (tkL i (L.take j)) <+: txs (tkL i L) := by
  have e : L = L.take j ++ L.drop j := (List.take_append_drop j L).symm
  cases hA : L.take j with
  | nil => rw [show tkL i [] = [] from by rw [tkL]]; exact List.nil_prefix
  | cons a A =>
    rw [hA] at e
    rw [e, List.cons_append, tkL, tkL, tkLc_app, ← List.append_assoc, ← List.append_assoc, ← List.append_assoc, txs_app (lnT i ++ tkV i a ++ tkLc i A)]
    exact List.prefix_append _ _
theorem lsB_len {i : Option Nat} {n : Int} {s : ByteArray} {L : List VT} {K : List ByteArray} {V : List VT} (j : Nat) : (lsB i L j).length ≤ (txs (tkV i (.mk 5 n s L K V))).length := by
  rw [tkV, if_pos rfl, txs_sg, txs_app, lsB, List.length_cons, List.length_cons, List.length_append]
  have := (tkL_pre (upN i) L j).length_le
  omega
/-- a map's text, so far -/
def msB (i : Option Nat) (V : List VT) (K : List ByteArray) (j : Nat) : List UInt8 := 123 :: txs (tkM (upN i) (V.take j) (K.take j))
theorem msB_next {i : Option Nat} {V : List VT} {K : List ByteArray} {j : Nat} {t : VT} {c : ByteArray} (h : V[j]? = some t) (g : K[j]? = some c) : msB i V K (j + 1) = msB i V K j ++ ((if j = 0 then [] else [44]) ++ (txs (lnT (upN i)) ++ (qtA false c.data.toList ++ (txs (clnT i) ++ txs (tkV (upN i) t))))) := by
  unfold msB
  have h1 := lt_of_some h
  have h2 := lt_of_some g
  rw [take_next h, take_next g, tkM_snoc _ _ _ _ _ (by rw [List.length_take, List.length_take]; omega), txs_app, txs_app, take_emp (by omega), sepT, txs_app, txs_cons, txs_app]
  have e : clnT (upN i) = clnT i := by cases i <;> rfl
  rw [e]
  by_cases h0 : j = 0
  · subst h0; simp [txs, Tk.tx]
  · simp [h0, txs, Tk.tx]
theorem msB_end {i : Option Nat} {n : Int} {s : ByteArray} {L : List VT} {K : List ByteArray} {V : List VT} (h : ¬ V = []) (hK : K.length = V.length) : txs (tkV i (.mk 6 n s L K V)) = msB i V K V.length ++ (txs (lnT i) ++ [125]) := by
  rw [tkV, if_neg (by decide), if_pos rfl, txs_sg, txs_app, txs_app, msB, List.take_length, ← hK, List.take_length, if_neg (by simpa using h)]
  simp [txs, Tk.tx]
theorem tkM_pre (i : Option Nat) (V : List VT) (K : List ByteArray) (hK : K.length = V.length) (j : Nat) : txs (tkM i (V.take j) (K.take j)) <+: txs (tkM i V K) := by
  have e : V = V.take j ++ V.drop j := (List.take_append_drop j V).symm
  have eK : K = K.take j ++ K.drop j := (List.take_append_drop j K).symm
  have hl : (K.take j).length = (V.take j).length := by rw [List.length_take, List.length_take, hK]
  cases hA : V.take j with
  | nil => rw [show ∀ J, tkM i [] J = [] from fun J => by rw [tkM]]; exact List.nil_prefix
  | cons a A =>
    cases hB : K.take j with
    | nil => rw [hA, hB] at hl; simp at hl
    | cons c B =>
      rw [hA, hB] at hl
      rw [hA] at e
      rw [hB] at eK
      rw [e, eK, List.cons_append, List.cons_append, tkM, tkM, List.tail_cons, List.tail_cons, tkMc_app i A _ B _ (by simpa using hl)]
      simp only [txs_app, txs_cons, ← List.append_assoc]
      exact List.prefix_append _ _
theorem msB_len {i : Option Nat} {n : Int} {s : ByteArray} {L : List VT} {K : List ByteArray} {V : List VT} (hK : K.length = V.length) (j : Nat) : (msB i V K j).length ≤ (txs (tkV i (.mk 6 n s L K V))).length := by
  rw [tkV, if_neg (by decide), if_pos rfl, txs_sg, txs_app, msB, List.length_cons, List.length_cons, List.length_append]
  have := (tkM_pre (upN i) V K hK j).length_le
  omega
end Go.Proofs.YtkhjahpkbjafaaaGreatDoor
