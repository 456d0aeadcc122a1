/- EscEvery, walked. -/
import Derived.Test.YtikdggcdgdokiaaDoorLawEscWritesWalk
namespace Go.Proofs.YtikdggcdgdokiaaDoor
open Go.RowKit

/-- so many hex digits of a number, of either case -/
def mxD (d : Nat) : UInt8 := ([48, 49, 50, 51, 52, 53, 54, 55, 56, 57, 97, 66, 99, 68, 101, 70] : List UInt8).getD d 0
def hxM (r : Nat) : Nat → List UInt8
  | 0 => []
  | j + 1 => mxD (r / 16 ^ j % 16) :: hxM r j
theorem hxM_len (r k : Nat) : (hxM r k).length = k := by
  induction k with
  | zero => rfl
  | succ k ih => rw [hxM, List.length_cons, ih]
theorem mx_is : ∀ d < 16, hxI (mxD d) = true ∧ hxV (mxD d) = d := by decide
theorem mx_cut : ∀ d < 16, ((⟨#[48, 49, 50, 51, 52, 53, 54, 55, 56, 57, 97, 66, 99, 68, 101, 70]⟩ : ByteArray).extract d (d + 1)).data.toList = [mxD d] := by decide
theorem hxM_all (r k : Nat) : (hxM r k).all hxI = true := by
  induction k with
  | zero => rfl
  | succ k ih => rw [hxM, List.all_cons, ih, (mx_is _ (Nat.mod_lt _ (by omega))).1]; rfl
theorem hxM_fold (r k : Nat) : ∀ v, (hxM r k).foldl (fun v b => 16 * v + hxV b) v = v * 16 ^ k + r % 16 ^ k := by
  induction k with
  | zero => intro v; simp [hxM, Nat.mod_one]
  | succ k ih =>
    intro v
    rw [hxM, List.foldl_cons, ih, (mx_is _ (Nat.mod_lt _ (by omega))).2, Nat.mod_pow_succ, Nat.pow_succ]
    rw [Nat.add_mul, Nat.mul_comm 16 v, Nat.mul_assoc, Nat.mul_comm 16 (16 ^ k), Nat.mul_comm (r / 16 ^ k % 16) (16 ^ k)]
    omega
theorem hxM_val (r k : Nat) (h : r < 16 ^ k) : hexF (hxM r k) = r := by
  unfold hexF
  rw [hxM_fold, Nat.mod_eq_of_lt h, Nat.zero_mul, Nat.zero_add]
theorem cd_hxM (r k : Nat) (h : r < 16 ^ k) (hk : 1 ≤ k) (hk8 : k ≤ 8) (p m : List UInt8) : cdI (p ++ hxM r k ++ m) p.length k = r := by
  have hl := hxM_len r k
  have e : ((p ++ hxM r k ++ m).drop p.length).take k = hxM r k := by
    rw [List.append_assoc, List.drop_left, List.take_append_of_le_length (by omega), List.take_of_length_le (by omega)]
  have hb : hexB (hxM r k) = true := by unfold hexB; rw [hl, decide_eq_true ⟨hk, hk8⟩, hxM_all]; rfl
  unfold cdI
  rw [e, if_pos ⟨by rw [List.length_append, List.length_append]; omega, hb⟩, hxM_val r k h]
theorem one_piece (P : List UInt8 → List UInt8 × Nat) (e x : List UInt8) (hP : P (e ++ [34]) = (x, e.length)) (h0 : 0 < e.length) (hb : bt (e ++ [34]) 0 ≠ 34) : rdA (oE 34) P (34 :: (e ++ [34])) 1 = (x, e.length + 2, -1) := by
  have hl : (34 :: (e ++ [34])).length = e.length + 2 := by simp
  have hd1 : (34 :: (e ++ [34])).drop 1 = e ++ [34] := rfl
  have hd2 : (34 :: (e ++ [34])).drop (1 + e.length) = [34] := by rw [Nat.add_comm, List.drop_succ_cons, List.drop_left]
  unfold rdA
  obtain ⟨f', h1, h2⟩ := rd_step (E := oE 34) (P := P) (t := 34 :: (e ++ [34])) (f := (34 :: (e ++ [34])).length + 1) (i := 1) (acc := []) (by omega) (by omega) (by rw [hd1]; exact oE_no hb) (by rw [hd1, hP]; exact h0)
  rw [hd1, hP] at h1 h2
  rw [h1]
  have hE : oE 34 [34] = ([], 1) := oE_yes rfl
  rw [rd_stop h2 (by rw [hl]; show 1 + e.length < _; omega) (by show 0 < (oE 34 ((34 :: (e ++ [34])).drop (1 + e.length))).2; rw [hd2, hE]; decide)]
  show ([] ++ x ++ (oE 34 ((34 :: (e ++ [34])).drop (1 + e.length))).1, 1 + e.length + (oE 34 ((34 :: (e ++ [34])).drop (1 + e.length))).2, (-1 : Int)) = _
  rw [hd2, hE, List.append_nil, List.nil_append]
  have : 1 + e.length + 1 = e.length + 2 := by omega
  rw [← this]
theorem ev_u4 (toml : Bool) (r : Nat) (hr : r < 65536) (hg : goodB (r : Int) = true) (m : List UInt8) : escP toml ([92, 117] ++ hxM r 4 ++ m) = (ltr r, 6) := by
  have hc := cd_hxM r 4 (by omega) (by omega) (by omega) [92, 117] m
  have hc' : cdI ([92, 117] ++ hxM r 4 ++ m) 2 4 = r := hc
  rw [esc_u toml _ rfl]
  unfold escU
  rw [hc', if_pos ⟨by omega, hg⟩]
theorem ev_U8 (r : Nat) (hr : r < 4294967296) (hg : goodB (r : Int) = true) (m : List UInt8) : escP true ([92, 85] ++ hxM r 8 ++ m) = (ltr r, 10) := by
  have hc := cd_hxM r 8 (by omega) (by omega) (by omega) [92, 85] m
  have hc' : cdI ([92, 85] ++ hxM r 8 ++ m) 2 8 = r := hc
  rw [esc_U _ rfl]
  unfold escU
  rw [hc', if_pos ⟨by omega, hg⟩]
theorem ev_pair (h l : Nat) (h1 : 55296 ≤ h) (h2 : h < 56320) (l1 : 56320 ≤ l) (l2 : l < 57344) (m : List UInt8) : escP false ([92, 117] ++ hxM h 4 ++ [92, 117] ++ hxM l 4 ++ m) = (ltr (65536 + ((h : Int) - 55296) * 1024 + (l : Int) - 56320), 12) := by
  have hc := cd_hxM h 4 (by omega) (by omega) (by omega) [92, 117] ([92, 117] ++ hxM l 4 ++ m)
  have e1 : [92, 117] ++ hxM h 4 ++ ([92, 117] ++ hxM l 4 ++ m) = [92, 117] ++ hxM h 4 ++ [92, 117] ++ hxM l 4 ++ m := by simp
  rw [e1] at hc
  have hc' : cdI ([92, 117] ++ hxM h 4 ++ [92, 117] ++ hxM l 4 ++ m) 2 4 = h := hc
  have hd := cd_hxM l 4 (by omega) (by omega) (by omega) ([92, 117] ++ hxM h 4 ++ [92, 117]) m
  have hl8 : ([92, 117] ++ hxM h 4 ++ [92, 117]).length = 8 := by rw [List.length_append, List.length_append, hxM_len]; rfl
  rw [hl8] at hd
  have b6 : bt ([92, 117] ++ hxM h 4 ++ [92, 117] ++ hxM l 4 ++ m) 6 = 92 := rfl
  have b7 : bt ([92, 117] ++ hxM h 4 ++ [92, 117] ++ hxM l 4 ++ m) 7 = 117 := rfl
  rw [esc_u false _ rfl]
  exact (by
    unfold escU
    rw [hc', hd, b6, b7, good_no (by omega), if_neg (by simp), if_pos ⟨rfl, by omega, by omega, rfl, rfl, by omega, by omega⟩])
theorem i64_and16 (n : Int) : bits .and .i64 n 65535 = n % 65536 := by
  have hm : (BitVec.ofInt 64 65535).toNat = 2 ^ 16 - 1 := by decide
  have key : (BitVec.ofInt 64 n &&& BitVec.ofInt 64 65535).toNat = (n % ((2 ^ 64 : Nat) : Int)).toNat % 2 ^ 16 := by
    rw [BitVec.toNat_and, BitVec.toNat_ofInt, hm, Nat.and_two_pow_sub_one_eq_mod]
  show IntKind.i64.wrap ((BitVec.ofInt 64 n &&& BitVec.ofInt 64 65535).toNat : Nat) = n % 65536
  rw [key, IntKind.wrap_i64]
  omega
set_option maxRecDepth 100000 in
set_option maxHeartbeats 1000000 in
theorem lhex_any (r k : Nat) (hr : r < 4294967296) (hk : k ≤ 8) (w : World) :
    Calls Tryd.prog 23 #[.int .i64 (r : Int), .int .i64 (k : Int)] w fun e w' => e = .returned (.string (mkS (hxM r k))) ∧ w' = w := by
  go_enter Tryd.func23, Tryd.ntmps23
  go_wp2_with fail
  go_loop [0, 5, 6] (fun n s i => ∃ (j x : Nat) (A : ByteArray), j ≤ k ∧ i = .int .i64 j ∧ n = .int .i64 x ∧ s = .string A ∧ x < 4294967296 ∧ A.size ≤ j ∧ Hid (x = r / 16 ^ j) ∧ Hid (A = mkS (hxM r j))) (fun _ _ i => k - (intOf i).toNat)
  case atStart => exact ⟨0, r, ⟨#[]⟩, Nat.zero_le _, rfl, rfl, rfl, hr, Nat.zero_le _, (show r = r / 16 ^ 0 by simp), rfl⟩
  case round =>
    obtain ⟨j, x, A, hj, rfl, rfl, rfl, hx, hA, HX, HA⟩ := hrel
    by_cases hlt : j < k
    · obtain ⟨y, hy⟩ : ∃ y, x % 16 = y := ⟨_, rfl⟩
      have hy16 : y < 16 := by omega
      have ha : bits .and .i64 (x : Int) 15 = (y : Int) := by rw [i64_and15]; omega
      obtain ⟨c, hc⟩ : ∃ c, (⟨#[48, 49, 50, 51, 52, 53, 54, 55, 56, 57, 97, 66, 99, 68, 101, 70]⟩ : ByteArray).extract y (y + 1) = c := ⟨_, rfl⟩
      have HC := hid (show c = mkS [mxD y] from mkS_of _ _ (by rw [← hc]; exact mx_cut y hy16))
      have hcs : c.size = 1 := by rw [HC.out, mkS_size]; rfl
      have HCS := hid hcs
      have hcs1 : c.size ≤ 1 := by omega
      have HN := hid (show c ++ A = mkS (hxM r (j + 1)) by
        rw [HC.out, HA.out, mkS_app, hxM, ← HX.out, hy]; rfl)
      have HX2 := hid (show x / 16 = r / 16 ^ (j + 1) by rw [HX.out, Nat.div_div_eq_div_mul, Nat.pow_succ])
      clear hy hcs
      go_wp2_with fail
      go_round
      case rel => exact ⟨j + 1, x / 16, c ++ A, hlt, val_int (by omega), val_int (by omega), rfl, by omega, by rw [ByteArray.size_append, HCS.out]; omega, HX2.out, HN.out⟩
      case measure => simp [intOf]; omega
    · have hjk : k = j := by omega
      have HK := hid hjk
      clear hjk
      go_wp2_with fail
      go_ret
      exact ⟨ret_st (by rw [HK.out]; exact HA.out), rfl⟩
theorem unq0 (t x : ByteArray) (n : Nat) (b : Int) (w : World) (ht : t.size ≤ 1000000) (l : List UInt8) (hl : t.data.toList = l) (h : unqJ l 0 = (x.data.toList, n, b)) :
    Calls Tryd.prog 9 #[.string t, .int .i64 0] w fun e w' => e = .returned (.tuple #[.string x, .int .i64 (n : Int), .int .i64 b]) ∧ Below w.heap.size w w' := unq_at t x n b w ht (by rw [hl]; exact h)
theorem unqJ_one (e x : List UInt8) (hP : jsP (e ++ [34]) = (x, e.length)) (h0 : 0 < e.length) (hb : bt (e ++ [34]) 0 ≠ 34) : unqJ (34 :: (e ++ [34])) 0 = (x, e.length + 2, -1) := by
  unfold unqJ
  rw [if_pos ⟨by decide, rfl⟩]
  exact one_piece jsP e x hP h0 hb
theorem unqT_one (e x : List UInt8) (hP : oeP (e ++ [34]) = (x, e.length)) (h0 : 0 < e.length) (hb : bt (e ++ [34]) 0 ≠ 34) : unqT (34 :: (e ++ [34])) 0 = (x, e.length + 2, -1) := by
  have hm : m3 34 ((34 :: (e ++ [34])).drop 0) = false := by
    unfold m3; rw [List.drop_zero, bt_succ, decide_eq_false hb]; simp
  have h := unqT_is (34 :: (e ++ [34])) 0 34 rfl (Or.inl rfl)
  rw [hm, ee_one, pp_oe] at h
  have h' : unqT (34 :: (e ++ [34])) 0 = rdA (oE 34) oeP (34 :: (e ++ [34])) 1 := h
  rw [h']
  exact one_piece oeP e x hP h0 hb
theorem js_esc {e m : List UInt8} (h : bt (e ++ m) 0 = 92) : jsP (e ++ m) = escP false (e ++ m) := by unfold jsP; rw [if_pos h]
theorem oe_esc {e m : List UInt8} (h : bt (e ++ m) 0 = 92) : oeP (e ++ m) = escP true (e ++ m) := by unfold oeP; rw [if_pos h]
theorem wrapped (a b c : ByteArray) (l : List UInt8) (ha : a.data.toList = 34 :: l) (hc : c.data.toList = [34]) : (a ++ b ++ c).data.toList = 34 :: ((l ++ b.data.toList) ++ [34]) := by
  rw [app3, ha, hc]; simp
theorem w92 (l m : List UInt8) (c : UInt8) : bt ([92, c] ++ l ++ m) 0 = 92 := rfl
set_option maxRecDepth 100000 in
set_option maxHeartbeats 4000000 in
theorem escEvery_walk (r : Int) (_w1 : (Lit.int .i64 r).wf = true) (w : World) :
    Calls Tryd.prog 6 #[.int .i64 r] w fun e w' => e = .returned (.bool true) ∧ Below w.heap.size w w' := by
  have CG := hid (fun X => rgood_any r X)

  cases hg : goodB r with
  | false =>
    rw [hg] at CG
    clear hg
    go_enter Tryd.func6, Tryd.ntmps6
    go_wp2_with (first
      | (go_at_call 8; go_must (refine (awake_any _).mono ?_; rintro e wa ⟨rfl, hba⟩))
      | (go_at_call 21; go_must (refine (CG.out _).mono ?_; rintro e wg ⟨rfl, hwg⟩; obtain rfl := hwg.symm)))
    go_ret
    exact ⟨rfl, hba⟩
  | true =>
    rw [hg] at CG
    have hrr := of_decide_eq_true hg
    obtain ⟨n, rfl⟩ : ∃ n : Nat, r = n := ⟨r.toNat, by omega⟩
    have hn : n ≤ 1114111 := by omega
    obtain ⟨want, hwant⟩ : ∃ x, mkS (ltr (n : Int)) = x := ⟨_, rfl⟩
    have hwl : want.data.toList = ltr (n : Int) := by rw [← hwant, mkS_list]
    have CP := hid (fun X => rput_l (n : Int) X)
    rw [hwant] at CP
    obtain ⟨h4, hh4⟩ : ∃ x, mkS (hxM n 4) = x := ⟨_, rfl⟩
    obtain ⟨h8, hh8⟩ : ∃ x, mkS (hxM n 8) = x := ⟨_, rfl⟩
    have h4s : h4.size = 4 := by rw [← hh4, mkS_size, hxM_len]
    have h8s : h8.size = 8 := by rw [← hh8, mkS_size, hxM_len]
    have h4l : h4.data.toList = hxM n 4 := by rw [← hh4, mkS_list]
    have h8l : h8.data.toList = hxM n 8 := by rw [← hh8, mkS_list]
    have CH4 : Hid (∀ X, Calls Tryd.prog 23 #[.int .i64 ((n : Int)), .int .i64 4] X fun e w' => e = .returned (.string h4) ∧ w' = X) := fun X => by have := lhex_any n 4 (by omega) (by omega) X; rw [hh4] at this; exact this
    have CH8 : Hid (∀ X, Calls Tryd.prog 23 #[.int .i64 ((n : Int)), .int .i64 8] X fun e w' => e = .returned (.string h8) ∧ w' = X) := fun X => by have := lhex_any n 8 (by omega) (by omega) X; rw [hh8] at this; exact this
    obtain ⟨u8, hu8⟩ : ∃ x, (⟨#[34, 92, 85]⟩ : ByteArray) ++ h8 ++ ⟨#[34]⟩ = x := ⟨_, rfl⟩
    have hu8s : u8.size ≤ 1000000 := by rw [← hu8, ByteArray.size_append, ByteArray.size_append, h8s]; decide
    have CT8 := hid (fun X => tunq_at u8 want 12 (-1) X hu8s (by
      rw [← hu8, wrapped ⟨#[34, 92, 85]⟩ h8 ⟨#[34]⟩ [92, 85] rfl rfl, h8l, hwl]
      have hl : ([92, 85] ++ hxM n 8).length = 10 := by rw [List.length_append, hxM_len]; rfl
      rw [unqT_one _ (ltr (n : Int)) (by rw [oe_esc (w92 _ _ 85), ev_U8 n (by omega) hg, hl]) (by rw [hl]; decide) (by rw [w92]; decide), hl]))
    by_cases hbig : n < 65536
    · obtain ⟨j, hj⟩ : ∃ x, (⟨#[34, 92, 117]⟩ : ByteArray) ++ h4 ++ ⟨#[34]⟩ = x := ⟨_, rfl⟩
      have hjs : j.size = 8 := by rw [← hj, ByteArray.size_append, ByteArray.size_append, h4s]; rfl
      have hjl : j.data.toList = 34 :: (([92, 117] ++ hxM n 4) ++ [34]) := by rw [← hj, wrapped ⟨#[34, 92, 117]⟩ h4 ⟨#[34]⟩ [92, 117] rfl rfl, h4l]
      have hl : ([92, 117] ++ hxM n 4).length = 6 := by rw [List.length_append, hxM_len]; rfl
      have CU := hid (fun X => unq_at j want 8 (-1) X (by omega) (by
        rw [hjl, hwl, unqJ_one _ (ltr (n : Int)) (by rw [js_esc (w92 _ _ 117), ev_u4 false n hbig hg, hl]) (by rw [hl]; decide) (by rw [w92]; decide), hl]))
      have CT4 := hid (fun X => tunq_at j want 8 (-1) X (by omega) (by
        rw [hjl, hwl, unqT_one _ (ltr (n : Int)) (by rw [oe_esc (w92 _ _ 117), ev_u4 true n hbig hg, hl]) (by rw [hl]; decide) (by rw [w92]; decide), hl]))
      have hand : bits .and .i64 (n : Int) 65535 = (n : Int) := by rw [i64_and16]; omega
      have g : ¬ (65535 : Int) < (n : Int) := by omega
      have h4s' : h4.size ≤ 4 := by omega
      have h8s' : h8.size ≤ 8 := by omega
      clear hrr hg hwant hwl hh4 hh8 h4l h8l hjl hl h4s h8s
      go_enter Tryd.func6, Tryd.ntmps6
      go_wp2_with (first
        | (go_at_call 8; go_must (refine (awake_any _).mono ?_; rintro e wa ⟨rfl, hba⟩))
        | (go_at_call 21; go_must (refine (CG.out _).mono ?_; rintro e wg ⟨rfl, hwg⟩; obtain rfl := hwg.symm))
        | (go_at_call 22; go_must (refine (CP.out _).mono ?_; rintro e wp ⟨rfl, hbp⟩))
        | (go_at_call 23; go_must (first | ((with_reducible refine (CH4.out _).mono ?_); rintro e wh ⟨rfl, hwh⟩; obtain rfl := hwh.symm) | ((with_reducible refine (CH8.out _).mono ?_); rintro e wh ⟨rfl, hwh⟩; obtain rfl := hwh.symm)))
        | (go_at_call 9; go_must (refine (CU.out _).mono ?_; rintro e wu ⟨rfl, hbu⟩))
        | (go_at_call 10; go_must (first | ((with_reducible refine (CT8.out _).mono ?_); rintro e wt ⟨rfl, hbt⟩) | ((with_reducible refine (CT4.out _).mono ?_); rintro e wv ⟨rfl, hbv⟩))))
      go_ret
      exact ⟨rfl, eonto (eonto (eonto (eonto hba hbp) hbu) hbt) hbv⟩
    · obtain ⟨h, hh⟩ : ∃ h : Nat, h = 55296 + (n - 65536) / 1024 := ⟨_, rfl⟩
      obtain ⟨l, hl⟩ : ∃ l : Nat, l = 56320 + (n - 65536) % 1024 := ⟨_, rfl⟩
      have eh : (55296 : Int) + ((n : Int) - 65536) / 1024 = (h : Int) := by omega
      have el : (56320 : Int) + ((n : Int) - 65536) % 1024 = (l : Int) := by omega
      obtain ⟨xh, hxh⟩ : ∃ x, mkS (hxM h 4) = x := ⟨_, rfl⟩
      obtain ⟨xl, hxl⟩ : ∃ x, mkS (hxM l 4) = x := ⟨_, rfl⟩
      obtain ⟨xx, hxx⟩ : ∃ x, mkS (hxM (n % 65536) 4) = x := ⟨_, rfl⟩
      have xhs : xh.size = 4 := by rw [← hxh, mkS_size, hxM_len]
      have xls : xl.size = 4 := by rw [← hxl, mkS_size, hxM_len]
      have xxs : xx.size = 4 := by rw [← hxx, mkS_size, hxM_len]
      have CHH : Hid (∀ X, Calls Tryd.prog 23 #[.int .i64 ((h : Int)), .int .i64 4] X fun e w' => e = .returned (.string xh) ∧ w' = X) := fun X => by have := lhex_any h 4 (by omega) (by omega) X; rw [hxh] at this; exact this
      have CHL : Hid (∀ X, Calls Tryd.prog 23 #[.int .i64 ((l : Int)), .int .i64 4] X fun e w' => e = .returned (.string xl) ∧ w' = X) := fun X => by have := lhex_any l 4 (by omega) (by omega) X; rw [hxl] at this; exact this
      obtain ⟨z, hz⟩ : ∃ z : Nat, z = n % 65536 := ⟨_, rfl⟩
      have hand : bits .and .i64 (n : Int) 65535 = (z : Int) := by rw [i64_and16]; omega
      have CHX : Hid (∀ X, Calls Tryd.prog 23 #[.int .i64 ((z : Int)), .int .i64 4] X fun e w' => e = .returned (.string xx) ∧ w' = X) := fun X => by have := lhex_any z 4 (by omega) (by omega) X; rw [hz, hxx, ← hz] at this; exact this
      obtain ⟨j, hj⟩ : ∃ x, (⟨#[34, 92, 117]⟩ : ByteArray) ++ xh ++ ⟨#[92, 117]⟩ ++ xl ++ ⟨#[34]⟩ = x := ⟨_, rfl⟩
      have hjs : j.size = 14 := by rw [← hj, ByteArray.size_append, ByteArray.size_append, ByteArray.size_append, ByteArray.size_append, xhs, xls]; rfl
      have hjl : j.data.toList = 34 :: (([92, 117] ++ hxM h 4 ++ [92, 117] ++ hxM l 4) ++ [34]) := by
        rw [← hj, app3, app3, ← hxh, ← hxl, mkS_list, mkS_list]; rfl
      have hlen : ([92, 117] ++ hxM h 4 ++ [92, 117] ++ hxM l 4).length = 12 := by rw [List.length_append, List.length_append, List.length_append, hxM_len, hxM_len]; rfl
      have CU := hid (fun X => unq_at j want 14 (-1) X (by omega) (by
        have hb : bt (([92, 117] ++ hxM h 4 ++ [92, 117] ++ hxM l 4) ++ [34]) 0 = 92 := rfl
        have e : (65536 + ((h : Int) - 55296) * 1024 + (l : Int) - 56320) = (n : Int) := by omega
        rw [hjl, hwl, unqJ_one _ (ltr (n : Int)) (by rw [js_esc hb, ev_pair h l (by omega) (by omega) (by omega) (by omega), e, hlen]) (by rw [hlen]; decide) (by rw [hb]; decide), hlen]))
      obtain ⟨j4, hj4⟩ : ∃ x, (⟨#[34, 92, 117]⟩ : ByteArray) ++ xx ++ ⟨#[34]⟩ = x := ⟨_, rfl⟩
      have hj4s : j4.size ≤ 1000000 := by rw [← hj4, ByteArray.size_append, ByteArray.size_append, xxs]; decide
      have CT4 := hid (fun X => tunq_any j4 0 X hj4s)
      have g : (65535 : Int) < (n : Int) := by omega
      have h4s' : h4.size ≤ 4 := by omega
      have h8s' : h8.size ≤ 8 := by omega
      have xhs' : xh.size ≤ 4 := by omega
      have xls' : xl.size ≤ 4 := by omega
      have xxs' : xx.size ≤ 4 := by omega
      clear hrr hg hwant hwl hh4 hh8 h4l h8l hjl hlen h4s h8s xhs xls xxs hh hl hz hxh hxl hxx
      go_enter Tryd.func6, Tryd.ntmps6
      go_wp2_with (first
        | (go_at_call 8; go_must (refine (awake_any _).mono ?_; rintro e wa ⟨rfl, hba⟩))
        | (go_at_call 21; go_must (refine (CG.out _).mono ?_; rintro e wg ⟨rfl, hwg⟩; obtain rfl := hwg.symm))
        | (go_at_call 22; go_must (refine (CP.out _).mono ?_; rintro e wp ⟨rfl, hbp⟩))
        | (go_at_call 23; go_must (first | ((with_reducible refine (CH4.out _).mono ?_); rintro e wh ⟨rfl, hwh⟩; obtain rfl := hwh.symm) | ((with_reducible refine (CH8.out _).mono ?_); rintro e wh ⟨rfl, hwh⟩; obtain rfl := hwh.symm) | ((with_reducible refine (CHH.out _).mono ?_); rintro e wh ⟨rfl, hwh⟩; obtain rfl := hwh.symm) | ((with_reducible refine (CHL.out _).mono ?_); rintro e wh ⟨rfl, hwh⟩; obtain rfl := hwh.symm) | ((with_reducible refine (CHX.out _).mono ?_); rintro e wh ⟨rfl, hwh⟩; obtain rfl := hwh.symm)))
        | (go_at_call 9; go_must (refine (CU.out _).mono ?_; rintro e wu ⟨rfl, hbu⟩))
        | (go_at_call 10; go_must (first | ((with_reducible refine (CT8.out _).mono ?_); rintro e wt ⟨rfl, hbt⟩) | ((with_reducible refine (CT4.out _).mono ?_); rintro e wv ⟨rfl, hbv⟩))))
      go_ret
      exact ⟨rfl, eonto (eonto (eonto (eonto hba hbp) hbu) hbt) hbv⟩
end Go.Proofs.YtikdggcdgdokiaaDoor
