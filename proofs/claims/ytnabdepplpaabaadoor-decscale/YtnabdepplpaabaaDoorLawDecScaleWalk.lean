/- DecScale, walked: powers add up; noughts behind the dot change nothing. -/
import Derived.Test.YtnabdepplpaabaaDoorDecAwake
import Derived.Test.YtnabdepplpaabaaDoorMathDec7
import Derived.Deep.RegionWith
import Derived.OpenShut
namespace Go.Proofs.YtnabdepplpaabaaDoor
open Go.RowKit

theorem rep_snoc (k : Nat) : mkS (List.replicate k 48) ++ (⟨#[48]⟩ : ByteArray) = mkS (List.replicate (k + 1) 48) := by
  rw [lit_mk, mkS_add, List.replicate_succ']
theorem neq_iff (x : Int) (h : ¬ x = 0) : (x != 0) = true := by simpa using h
set_option maxRecDepth 100000 in
set_option maxHeartbeats 1000000 in
theorem scale_walk (n a b : Int) (w0 : (Lit.int .i64 n).wf = true) (_w1 : (Lit.int .i64 a).wf = true) (_w2 : (Lit.int .i64 b).wf = true) (w : World) (hg : Glob w) :
    Calls Tryd.prog 7 #[.int .i64 n, .int .i64 a, .int .i64 b] w fun e w' => e = .returned (.bool true) ∧ Below w.heap.size w w' := by
  have GL := hid hg
  clear hg
  have HB : Below w.heap.size w w := Below.refl _ _
  have HN := hid (bounds_i64 w0)
  by_cases hout : a < -2000 ∨ a > 2000 ∨ b < 0 ∨ b > 100
  · have hout' : a < -2000 ∨ (¬ a < -2000 ∧ a > 2000) ∨ (¬ a < -2000 ∧ ¬ a > 2000 ∧ b < 0) ∨ (¬ a < -2000 ∧ ¬ a > 2000 ∧ ¬ b < 0 ∧ b > 100) := by omega
    clear hout
    rcases hout' with h | ⟨h, h'⟩ | ⟨h, h', h''⟩ | ⟨h, h', h'', h'''⟩
    all_goals
      go_enter Tryd.func7, Tryd.ntmps7
      go_wp2_with (go_at_call 9; go_must (refine (awake_any _ (GL.out.on HB)).mono ?_; rintro e x ⟨rfl, hx⟩; replace HB := onto HB hx))
      go_ret
      exact ⟨rfl, HB⟩
  · have a1 : -2000 ≤ a := by omega
    have a2 : a ≤ 2000 := by omega
    obtain ⟨m, rfl⟩ : ∃ m : Nat, b = (m : Int) := ⟨b.toNat, by omega⟩
    have b1 : m ≤ 100 := by omega
    clear hout
    have hn1 : -9223372036854775808 ≤ n ∧ n < 9223372036854775808 := ⟨HN.out.1, by have := HN.out.2; omega⟩
    have t1 : (mkS (txt n)).size ≤ 20 := by rw [mkS_size]; exact txt_short n hn1
    have t2 : (mkS (txt a)).size ≤ 7 := by rw [mkS_size]; exact pow_short a (by omega)
    have t3 : (mkS (txt (a - (m : Int)))).size ≤ 7 := by rw [mkS_size]; exact pow_short _ (by omega)
    have t4 : (mkS (txt (a + 1))).size ≤ 7 := by rw [mkS_size]; exact pow_short _ (by omega)
    have l1 : (⟨#[101]⟩ : ByteArray).size = 1 := rfl
    have l2 : (⟨#[69]⟩ : ByteArray).size = 1 := rfl
    have l3 : (⟨#[46, 48]⟩ : ByteArray).size = 2 := rfl
    have l4 : (⟨#[48]⟩ : ByteArray).size = 1 := rfl
    obtain ⟨s, hs⟩ : ∃ s, mkS (txt n) = s := ⟨_, rfl⟩
    have HTN := hid (fun w (g : Glob w) => dtext_any n w g hn1.1 hn1.2)
    rw [hs] at t1 HTN
    obtain ⟨s1, hs1⟩ : ∃ x, s ++ (⟨#[101]⟩ : ByteArray) = x := ⟨_, rfl⟩
    have z1 : s1.size ≤ 21 := by rw [← hs1, ByteArray.size_append]; omega
    obtain ⟨X, hX⟩ : ∃ x, s1 ++ mkS (txt a) = x := ⟨_, rfl⟩
    have zX : X.size ≤ 28 := by rw [← hX, ByteArray.size_append]; omega
    have LX := hid (show X.data.toList = txt n ++ 101 :: txt a by rw [← hX, ← hs1, ← hs]; simp [mkS])
    have HS := hid hs
    clear hs
    go_enter Tryd.func7, Tryd.ntmps7
    go_wp2_with (first
      | (go_at_call 9; go_must (refine (awake_any _ (GL.out.on HB)).mono ?_; rintro e x ⟨rfl, hx⟩; replace HB := onto HB hx))
      | (go_at_call 20; go_must (refine (HTN.out _ (GL.out.on HB)).mono ?_; rintro e x ⟨rfl, hx⟩; replace HB := onto HB hx)))
    go_loop [8, 9] (fun z i => ∃ k : Nat, k ≤ m ∧ z = .string (mkS (List.replicate k 48)) ∧ i = .int .i64 k) (fun _ i => m - (intOf i).toNat)
    case atStart => exact ⟨0, Nat.zero_le _, rfl, rfl⟩
    case round =>
      obtain ⟨k, hk, rfl, rfl⟩ := hrel
      have zk : (mkS (List.replicate k (48 : UInt8))).size = k := by rw [mkS_size, List.length_replicate]
      by_cases hlt : k < m
      · have hr := rep_snoc k
        go_wp2_with fail
        go_round
        case rel => exact ⟨k + 1, hlt, rfl, by go_num⟩
        case measure => simp [intOf]; omega
      · have hkm : k = m := by omega
        subst hkm
        obtain ⟨z, hz⟩ : ∃ z, mkS (List.replicate k (48 : UInt8)) = z := ⟨_, rfl⟩
        rw [hz] at zk ⊢
        obtain ⟨y1, hy1⟩ : ∃ x, s ++ z = x := ⟨_, rfl⟩
        have zy1 : y1.size ≤ 120 := by rw [← hy1, ByteArray.size_append]; omega
        obtain ⟨y2, hy2⟩ : ∃ x, y1 ++ (⟨#[101]⟩ : ByteArray) = x := ⟨_, rfl⟩
        have zy2 : y2.size ≤ 121 := by rw [← hy2, ByteArray.size_append]; omega
        obtain ⟨Y, hY⟩ : ∃ x, y2 ++ mkS (txt (a - (k : Int))) = x := ⟨_, rfl⟩
        have zY : Y.size ≤ 128 := by rw [← hY, ByteArray.size_append]; omega
        have zY' : ¬ Y.size > 300 := by omega
        have LY := hid (show Y.data.toList = txt n ++ (List.replicate k 48 ++ 101 :: txt (a - (k : Int))) by rw [← hY, ← hy2, ← hy1, ← hz, ← HS.out]; simp [mkS])
        by_cases h0 : n = 0
        · have h0' : (n == 0) = true := by rw [h0]; rfl
          have HC := hid (show cmpI X.data.toList (ByteArray.mk #[48]).data.toList = 0 by rw [LX.out, h0]; exact scale_zero a ⟨a1, a2⟩)
          clear h0 hlt
          go_wp2_with (first
            | (go_at_call 20; go_must (refine (dtext_any _ _ (GL.out.on HB) (by omega) (by omega)).mono ?_; rintro e x ⟨rfl, hx⟩; replace HB := onto HB hx))
            | (go_at_call 13; go_must (refine (dcmp_any _ _ _ (by omega) (by decide)).mono ?_; rintro e x ⟨rfl, hx⟩; replace HB := onto HB hx; rw [HC.out])))
          go_ret
          exact ⟨rfl, HB⟩
        · have h0' : (n == 0) = false := by simpa using h0
          obtain ⟨v1, hv1⟩ : ∃ x, s ++ (⟨#[46, 48]⟩ : ByteArray) = x := ⟨_, rfl⟩
          have zv1 : v1.size ≤ 22 := by rw [← hv1, ByteArray.size_append]; omega
          obtain ⟨v2, hv2⟩ : ∃ x, v1 ++ z = x := ⟨_, rfl⟩
          have zv2 : v2.size ≤ 122 := by rw [← hv2, ByteArray.size_append]; omega
          obtain ⟨v3, hv3⟩ : ∃ x, v2 ++ (⟨#[69]⟩ : ByteArray) = x := ⟨_, rfl⟩
          have zv3 : v3.size ≤ 123 := by rw [← hv3, ByteArray.size_append]; omega
          obtain ⟨Z, hZ⟩ : ∃ x, v3 ++ mkS (txt a) = x := ⟨_, rfl⟩
          have zZ : Z.size ≤ 130 := by rw [← hZ, ByteArray.size_append]; omega
          have LZ := hid (show Z.data.toList = txt n ++ (46 :: (48 :: List.replicate k 48) ++ 69 :: txt a) by rw [← hZ, ← hv3, ← hv2, ← hv1, ← hz, ← HS.out]; simp [mkS])
          obtain ⟨U, hU⟩ : ∃ x, s1 ++ mkS (txt (a + 1)) = x := ⟨_, rfl⟩
          have zU : U.size ≤ 28 := by rw [← hU, ByteArray.size_append]; omega
          have LU := hid (show U.data.toList = txt n ++ 101 :: txt (a + 1) by rw [← hU, ← hs1, ← HS.out]; simp [mkS])
          have hM := scale_math n a k b1 h0 hn1 ⟨a1, a2⟩
          rw [← LX.out, ← LY.out, ← LZ.out, ← LU.out] at hM
          obtain ⟨Q, hQ⟩ : ∃ q, cmpI X.data.toList U.data.toList = q := ⟨_, rfl⟩
          rw [hQ] at hM
          have hq := neq_iff Q hM.2.2
          have H1 := hid hM.1
          have H2 := hid hM.2.1
          have HQ := hid hQ
          clear h0 hlt hM hQ hn1
          go_wp2_with (first
            | (go_at_call 20; go_must (refine (dtext_any _ _ (GL.out.on HB) (by omega) (by omega)).mono ?_; rintro e x ⟨rfl, hx⟩; replace HB := onto HB hx))
            | (go_at_call 13; go_must (refine (dcmp_any _ _ _ (by omega) (by omega)).mono ?_; rintro e x ⟨rfl, hx⟩; replace HB := onto HB hx; first | rw [H1.out] | rw [H2.out] | rw [HQ.out])))
          go_ret
          exact ⟨rfl, HB⟩
end Go.Proofs.YtnabdepplpaabaaDoor
