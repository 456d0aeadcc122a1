/- How deep and how many: JreadNests walked. -/
import Derived.Test.YtkhjahpkbjafaaaGreatDoorPMathNest
import Derived.Test.YtkhjahpkbjafaaaGreatDoorPRefVal3
import Derived.Test.YtkhjahpkbjafaaaGreatDoorPL8Base
namespace Go.Proofs.YtkhjahpkbjafaaaGreatDoor
open Go.RowKit

set_option maxRecDepth 100000 in
set_option maxHeartbeats 4000000 in
theorem Tryz.jreadNests_walk (n : Int) (kind : Bool) (many : Int) (_w0 : (Lit.int .i64 n).wf = true) (_w1 : (Lit.int .i64 many).wf = true) (w : World) (hgs : Globs w) :
    Calls Tryz.prog 3 #[.int .i64 n, .bool kind, .int .i64 many] w fun e w' => e = .returned (.bool true) ∧ Below w.heap.size w w' := by
  obtain ⟨hg, hu⟩ := hgs
  have CA := hid (awake8 w hg hu)
  have CP := hid (fun (t : ByteArray) X (ht : t.size ≤ 1000000) (hX : Below w.heap.size w X) => jparse_any t X ht (hg.on hX) (hu.on hX))
  clear hg hu
  obtain ⟨i1, hi, hz0, hz1, hz2⟩ := info_parts Tryz.info_b
  go_enter Tryz.func3, Tryz.ntmps3
  go_wp2_with fail
  go_at_call 14
  refine CA.out.mono ?_
  rintro e w0 ⟨rfl, hb0⟩
  have HB0 := hid hb0
  clear hb0 CA
  by_cases h1 : n < 0
  · go_wp2_with fail
    go_ret
    exact ⟨rfl, HB0.out⟩
  by_cases h2 : 40 < n
  · go_wp2_with fail
    go_ret
    exact ⟨rfl, HB0.out⟩
  by_cases h3 : many < 0
  · go_wp2_with fail
    go_ret
    exact ⟨rfl, HB0.out⟩
  by_cases h4 : 4200 < many
  · go_wp2_with fail
    go_ret
    exact ⟨rfl, HB0.out⟩
  obtain ⟨N, rfl⟩ : ∃ N : Nat, n = N := ⟨n.toNat, by omega⟩
  obtain ⟨M, rfl⟩ : ∃ M : Nat, many = M := ⟨many.toNat, by omega⟩
  clear _w0 _w1
  have HOP : Hid (∀ k : Bool, (rep (opB k) N).length ≤ 200 ∧ (rep (clB k) N).length ≤ 200) := fun k => by
    rw [rep_len, rep_len]
    cases k <;> simp [opB, clB] <;> omega
  have HNE : Hid (∀ k : Bool, ∃ R : Rd, jrA (rep (opB k) N ++ ([49] ++ rep (clB k) N)) = R ∧ ((N < 32 ∧ ∃ q, R = .ok (nestT k N) (N + 1) q) ∨ (32 ≤ N ∧ ∃ a, R = .bad 2 a))) := fun k => by
    by_cases h32 : N < 32
    · obtain ⟨q, hq⟩ := nest_reads k N h32
      exact ⟨_, hq, Or.inl ⟨h32, q, rfl⟩⟩
    · obtain ⟨a, ha⟩ := nest_fails k N (by omega) (by omega)
      exact ⟨_, ha, Or.inr ⟨by omega, a, rfl⟩⟩
  have HRW : Hid (∃ R : Rd, jrA ([91] ++ (rep [48, 44] M ++ [48, 93])) = R ∧ ((M + 2 ≤ 4096 ∧ ∃ q, R = .ok (listT (List.replicate (M + 1) (leafT 2 0 ⟨#[]⟩))) (M + 2) q) ∨ (4096 < M + 2 ∧ ∃ a, R = .bad 2 a))) := by
    by_cases h32 : M + 2 ≤ 4096
    · obtain ⟨q, hq⟩ := row_reads M h32
      exact ⟨_, hq, Or.inl ⟨h32, q, rfl⟩⟩
    · obtain ⟨a, ha⟩ := row_fails M (by omega) (by omega)
      exact ⟨_, ha, Or.inr ⟨by omega, a, rfl⟩⟩
  cases kind
  · go_wp2_with fail
    go_loopw [9, 10, 11] (fun sv tv iv wr => ∃ (j : Nat) (u v : ByteArray), j ≤ N ∧ iv = .int .i64 j ∧ sv = .string u ∧ tv = .string v ∧ u.size ≤ 5 * j ∧ v.size ≤ j ∧ Hid (u = mkS (rep (opB false) j)) ∧ Hid (v = mkS (rep (clB false) j)) ∧ wr = w0) (fun _ _ iv _ => N - (intOf iv).toNat)
    case atStart => exact ⟨0, _, _, Nat.zero_le _, rfl, rfl, rfl, by decide, by decide, rfl, rfl, rfl⟩
    case round =>
      obtain ⟨j, u, v, hj, rfl, rfl, rfl, hu, hv, HU, HV, hwr⟩ := hrel
      subst hwr
      by_cases hlt : j < N
      · go_wp2_with fail
        go_roundw
        case rel => exact ⟨j + 1, u ++ (⟨#[91]⟩ : ByteArray), v ++ (⟨#[93]⟩ : ByteArray), by omega, val_int (by omega), rfl, rfl, by rw [ByteArray.size_append]; show u.size + 1 ≤ _; omega, by rw [ByteArray.size_append]; show v.size + 1 ≤ _; omega, by show _ = _; rw [HU.out]; exact mkS_app _ _, by show _ = _; rw [HV.out]; exact mkS_app _ _, by first | trivial | rfl⟩
        case measure => simp [intOf]; omega
      · obtain rfl : j = N := by omega
        have e1 : (u ++ (⟨#[49]⟩ : ByteArray) ++ v).data.toList = rep (opB false) j ++ ([49] ++ rep (clB false) j) := by
          rw [HU.out, HV.out, show (⟨#[49]⟩ : ByteArray) = mkS [49] from rfl, mkS_app, mkS_app, mkS_list, List.append_assoc]
        obtain ⟨R, hR, hcase⟩ := HNE.out false
        have C1 := hid (fun X (hX : Below w.heap.size w X) => CP.out (u ++ (⟨#[49]⟩ : ByteArray) ++ v) X (by rw [ByteArray.size_append, ByteArray.size_append]; show u.size + 1 + v.size ≤ _; omega) hX)
        rw [e1, hR] at C1
        clear e1 hR HU HV hlt HNE HOP
        go_wp2_with fail
        go_at_call 15
        refine (C1.out _ HB0.out).mono ?_
        intro e w1 hjq
        obtain ⟨T, o, nn, c, o', nn', c', x, y, z, rfl, hb1, hok⟩ := jq_two hjq
        have HB1 := hid (vonto HB0.out hb1)
        clear hjq hb1 C1
        have f0 : ((w1.alloc (.cells #[.int .i64 T.kd, .int .i64 T.nm, .string T.st, .slice o nn c, .slice o' nn' c'] 27)).alloc (.cells #[.int .i64 (rdErr R : Int), .int .i64 x, .int .i64 y, .int .i64 z] 30)).cell? ⟨w1.heap.size + 1, 0, none⟩ = some (.int .i64 (rdErr R : Int)) := by rw [← World.size_alloc w1 (.cells #[.int .i64 T.kd, .int .i64 T.nm, .string T.st, .slice o nn c, .slice o' nn' c'] 27)]; simp
        have hk1 := valloc_bel (valloc_bel (Below.refl w1.heap.size w1) (.cells #[.int .i64 T.kd, .int .i64 T.nm, .string T.st, .slice o nn c, .slice o' nn' c'] 27)) (.cells #[.int .i64 (rdErr R : Int), .int .i64 x, .int .i64 y, .int .i64 z] 30)
        have v0 : ((w1.alloc (.cells #[.int .i64 T.kd, .int .i64 T.nm, .string T.st, .slice o nn c, .slice o' nn' c'] 27)).alloc (.cells #[.int .i64 (rdErr R : Int), .int .i64 x, .int .i64 y, .int .i64 z] 30)).cell? ⟨w1.heap.size, 0, none⟩ = some (.int .i64 T.kd) := by simp
        have v1 : ((w1.alloc (.cells #[.int .i64 T.kd, .int .i64 T.nm, .string T.st, .slice o nn c, .slice o' nn' c'] 27)).alloc (.cells #[.int .i64 (rdErr R : Int), .int .i64 x, .int .i64 y, .int .i64 z] 30)).cell? ⟨w1.heap.size, 1, none⟩ = some (.int .i64 T.nm) := by simp
        have v2 : ((w1.alloc (.cells #[.int .i64 T.kd, .int .i64 T.nm, .string T.st, .slice o nn c, .slice o' nn' c'] 27)).alloc (.cells #[.int .i64 (rdErr R : Int), .int .i64 x, .int .i64 y, .int .i64 z] 30)).cell? ⟨w1.heap.size, 2, none⟩ = some (.string T.st) := by simp
        have v3 : ((w1.alloc (.cells #[.int .i64 T.kd, .int .i64 T.nm, .string T.st, .slice o nn c, .slice o' nn' c'] 27)).alloc (.cells #[.int .i64 (rdErr R : Int), .int .i64 x, .int .i64 y, .int .i64 z] 30)).cell? ⟨w1.heap.size, 3, none⟩ = some (.slice o nn c) := by simp
        have v4 : ((w1.alloc (.cells #[.int .i64 T.kd, .int .i64 T.nm, .string T.st, .slice o nn c, .slice o' nn' c'] 27)).alloc (.cells #[.int .i64 (rdErr R : Int), .int .i64 x, .int .i64 y, .int .i64 z] 30)).cell? ⟨w1.heap.size, 4, none⟩ = some (.slice o' nn' c') := by simp
        have HOK : Hid (∀ T2 m q, R = .ok T2 m q → T = T2 ∧ HV ((w1.alloc (.cells #[.int .i64 T.kd, .int .i64 T.nm, .string T.st, .slice o nn c, .slice o' nn' c'] 27)).alloc (.cells #[.int .i64 (rdErr R : Int), .int .i64 x, .int .i64 y, .int .i64 z] 30)) T2 (.slice o nn c) (.slice o' nn' c')) := fun T2 m q e => ⟨(hok T2 m q e).1, (hok T2 m q e).2.hv.onto hk1⟩
        have HB2 := hid (vonto HB1.out hk1)
        clear hk1 hok HB1
        dsimp only
        go_upto_region 15 with fail
        generalize ((w1.alloc (.cells #[.int .i64 T.kd, .int .i64 T.nm, .string T.st, .slice o nn c, .slice o' nn' c'] 27)).alloc (.cells #[.int .i64 (rdErr R : Int), .int .i64 x, .int .i64 y, .int .i64 z] 30)) = X1 at f0 v0 v1 v2 v3 v4 HOK HB2 ⊢
        go_cut [81] (fun v wx => v = .bool false ∧ Hid (Below w.heap.size w wx))
        case first =>
          rcases hcase with ⟨h32, q, rfl⟩ | ⟨h32, a, rfl⟩
          · obtain ⟨hT, hv⟩ := HOK.out _ _ _ rfl
            rw [← hT] at hv
            have hgj : hgT T = j + 1 := by rw [hT, nest_hg]
            have CD := hid (deep_any (szT T) T _ _ X1 (Nat.le_refl _) hv (by rw [hT, nest_sz]; omega))
            rw [hgj] at CD
            replace f0 : X1.cell? ⟨w1.heap.size + 1, 0, none⟩ = some (.int .i64 0) := f0
            simp only [vv] at CD
            clear hT hv hgj
            go_wp2_with (go_at_call 16; go_must (refine CD.out.mono ?_; rintro e w2 ⟨rfl, hb2⟩))
            go_meet
            exact ⟨by first | rfl | (simp; omega) | simp, vonto HB2.out hb2⟩
          · replace f0 : X1.cell? ⟨w1.heap.size + 1, 0, none⟩ = some (.int .i64 2) := f0
            go_wp2_with fail
            go_meet
            exact ⟨by first | rfl | (simp; omega) | simp, HB2.out⟩
        case rest =>
        clear f0 v0 v1 v2 v3 v4 HOK HB2 hcase
        obtain ⟨rfl, HBc⟩ := hcut
        have hmk := Tryz.madeB
        have hcs := HBc.out.size
        go_wp2_with fail
        clear hmk
        go_loopw [14, 15] (fun rv iv wr => ∃ m : Nat, m ≤ M ∧ iv = .int .i64 m ∧ Hid (wr.ownsRow w.heap.size 5 1 rv (rep [48, 44] m).length (Lib.strCells (mkS (rep [48, 44] m)))) ∧ Hid (Below w.heap.size w wr)) (fun _ iv _ => M - (intOf iv).toNat)
        case atStart => exact ⟨0, Nat.zero_le _, rfl, Tryz.madeB_own _ _ hcs, valloc_bel HBc.out _⟩
        case round =>
          clear hcs HBc
          obtain ⟨m, hm, rfl, HO, HB⟩ := hrel
          have hbs := HB.out.size
          have hrl : (rep [48, 44] m).length ≤ 8400 := by rw [rep_len]; simp; omega
          by_cases hlt : m < M
          · go_wp2_with (at_builtin; go_must (refine wpList_append_own _ rfl _ _ 34 rfl w.heap.size 5 i1 (.int .u8 0) 1 1 Tryz.underlying34 hi hz0 hz1 hz2 rfl (by decide) _ (rep [48, 44] m).length _ rfl (HO.out.alloc _) ⟨wr.heap.size, 0, none⟩ 2 2 [.int .u8 48, .int .u8 44] rfl rfl (new_cells wr _ 5) (ints_oneCell .u8 [48, 44]) (by unfold maxLen; omega) (by omega) (by simp; omega) ?_; intro v1 w3 hown1 hgr1 _; have hown3 : w3.ownsRow w.heap.size 5 1 v1 (rep [48, 44] m ++ [48, 44]).length (Lib.strCells (mkS (rep [48, 44] m ++ [48, 44]))) := own_two hown1))
            have hb3 : Below w.heap.size w w3 := (HB.out.alloc hbs _).grown hgr1 (by simp; omega) (fun j hj => (HO.out.lt j hj).1)
            go_roundw
            case rel => exact ⟨m + 1, by omega, val_int (by omega), hown3, hb3⟩
            case measure => simp [intOf]; omega
          · obtain rfl : m = M := by omega
            have hcv := conv_own wr w.heap.size _ _ HO.out
            obtain ⟨R2, hR2, hcase2⟩ := HRW.out
            obtain ⟨rb, hrb⟩ : ∃ rb, mkS (rep [48, 44] m) = rb := ⟨_, rfl⟩
            have hrs : rb.size ≤ 8400 := by rw [← hrb, mkS_size]; exact hrl
            have e2 : ((⟨#[91]⟩ : ByteArray) ++ rb ++ (⟨#[48, 93]⟩ : ByteArray)).data.toList = [91] ++ (rep [48, 44] m ++ [48, 93]) := by
              rw [← hrb, show (⟨#[91]⟩ : ByteArray) = mkS [91] from rfl, show (⟨#[48, 93]⟩ : ByteArray) = mkS [48, 93] from rfl, mkS_app, mkS_app, mkS_list, List.append_assoc]
            have C2 := hid (fun X (hX : Below w.heap.size w X) => CP.out ((⟨#[91]⟩ : ByteArray) ++ rb ++ (⟨#[48, 93]⟩ : ByteArray)) X (by rw [ByteArray.size_append, ByteArray.size_append]; show 1 + rb.size + 2 ≤ _; omega) hX)
            rw [e2, hR2] at C2
            rw [hrb] at hcv
            clear e2 hR2 hrb HRW hrl hlt hm HO CP
            go_wp2_with fail
            go_at_call 15
            refine (C2.out _ HB.out).mono ?_
            intro e w4 hjq
            obtain ⟨T2, o2, n2, c2, o2', n2', c2', x2, y2, z2, rfl, hb4, hok⟩ := jq_two hjq
            have HB4 := hid (vonto HB.out hb4)
            have HL : Hid (∀ m2 q, R2 = .ok (listT (List.replicate (m + 1) (leafT 2 0 ⟨#[]⟩))) m2 q → n2 = m + 1) := fun m2 q e => by
              have := (hs_len (hok _ _ _ e).2).1
              simpa [listT, VT.ls] using this
            clear hjq hb4 C2 hok
            dsimp only
            rcases hcase2 with ⟨h96, q2, rfl⟩ | ⟨h96, a2, rfl⟩
            · obtain rfl := HL.out _ _ rfl
              have e0 : ((rdErr (.ok (listT (List.replicate (m + 1) (leafT 2 0 ⟨#[]⟩))) (m + 2) q2) : Nat) : Int) = 0 := rfl
              rw [e0]
              clear HL e0
              go_wp2_with fail
              go_ret
              exact ⟨by first | rfl | exact ret_bool (by simp; omega), valloc_bel (valloc_bel HB4.out _) _⟩
            · have e0 : ((rdErr (.bad 2 a2) : Nat) : Int) = 2 := rfl
              rw [e0]
              clear HL e0
              go_wp2_with fail
              go_ret
              exact ⟨by first | rfl | exact ret_bool (by simp; omega), valloc_bel (valloc_bel HB4.out _) _⟩
  · go_wp2_with fail
    go_loopw [9, 10, 11] (fun sv tv iv wr => ∃ (j : Nat) (u v : ByteArray), j ≤ N ∧ iv = .int .i64 j ∧ sv = .string u ∧ tv = .string v ∧ u.size ≤ 5 * j ∧ v.size ≤ j ∧ Hid (u = mkS (rep (opB true) j)) ∧ Hid (v = mkS (rep (clB true) j)) ∧ wr = w0) (fun _ _ iv _ => N - (intOf iv).toNat)
    case atStart => exact ⟨0, _, _, Nat.zero_le _, rfl, rfl, rfl, by decide, by decide, rfl, rfl, rfl⟩
    case round =>
      obtain ⟨j, u, v, hj, rfl, rfl, rfl, hu, hv, HU, HV, hwr⟩ := hrel
      subst hwr
      by_cases hlt : j < N
      · go_wp2_with fail
        go_roundw
        case rel => exact ⟨j + 1, u ++ (⟨#[123, 34, 107, 34, 58]⟩ : ByteArray), v ++ (⟨#[125]⟩ : ByteArray), by omega, val_int (by omega), rfl, rfl, by rw [ByteArray.size_append]; show u.size + 5 ≤ _; omega, by rw [ByteArray.size_append]; show v.size + 1 ≤ _; omega, by show _ = _; rw [HU.out]; exact mkS_app _ _, by show _ = _; rw [HV.out]; exact mkS_app _ _, by first | trivial | rfl⟩
        case measure => simp [intOf]; omega
      · obtain rfl : j = N := by omega
        have e1 : (u ++ (⟨#[49]⟩ : ByteArray) ++ v).data.toList = rep (opB true) j ++ ([49] ++ rep (clB true) j) := by
          rw [HU.out, HV.out, show (⟨#[49]⟩ : ByteArray) = mkS [49] from rfl, mkS_app, mkS_app, mkS_list, List.append_assoc]
        obtain ⟨R, hR, hcase⟩ := HNE.out true
        have C1 := hid (fun X (hX : Below w.heap.size w X) => CP.out (u ++ (⟨#[49]⟩ : ByteArray) ++ v) X (by rw [ByteArray.size_append, ByteArray.size_append]; show u.size + 1 + v.size ≤ _; omega) hX)
        rw [e1, hR] at C1
        clear e1 hR HU HV hlt HNE HOP
        go_wp2_with fail
        go_at_call 15
        refine (C1.out _ HB0.out).mono ?_
        intro e w1 hjq
        obtain ⟨T, o, nn, c, o', nn', c', x, y, z, rfl, hb1, hok⟩ := jq_two hjq
        have HB1 := hid (vonto HB0.out hb1)
        clear hjq hb1 C1
        have f0 : ((w1.alloc (.cells #[.int .i64 T.kd, .int .i64 T.nm, .string T.st, .slice o nn c, .slice o' nn' c'] 27)).alloc (.cells #[.int .i64 (rdErr R : Int), .int .i64 x, .int .i64 y, .int .i64 z] 30)).cell? ⟨w1.heap.size + 1, 0, none⟩ = some (.int .i64 (rdErr R : Int)) := by rw [← World.size_alloc w1 (.cells #[.int .i64 T.kd, .int .i64 T.nm, .string T.st, .slice o nn c, .slice o' nn' c'] 27)]; simp
        have hk1 := valloc_bel (valloc_bel (Below.refl w1.heap.size w1) (.cells #[.int .i64 T.kd, .int .i64 T.nm, .string T.st, .slice o nn c, .slice o' nn' c'] 27)) (.cells #[.int .i64 (rdErr R : Int), .int .i64 x, .int .i64 y, .int .i64 z] 30)
        have v0 : ((w1.alloc (.cells #[.int .i64 T.kd, .int .i64 T.nm, .string T.st, .slice o nn c, .slice o' nn' c'] 27)).alloc (.cells #[.int .i64 (rdErr R : Int), .int .i64 x, .int .i64 y, .int .i64 z] 30)).cell? ⟨w1.heap.size, 0, none⟩ = some (.int .i64 T.kd) := by simp
        have v1 : ((w1.alloc (.cells #[.int .i64 T.kd, .int .i64 T.nm, .string T.st, .slice o nn c, .slice o' nn' c'] 27)).alloc (.cells #[.int .i64 (rdErr R : Int), .int .i64 x, .int .i64 y, .int .i64 z] 30)).cell? ⟨w1.heap.size, 1, none⟩ = some (.int .i64 T.nm) := by simp
        have v2 : ((w1.alloc (.cells #[.int .i64 T.kd, .int .i64 T.nm, .string T.st, .slice o nn c, .slice o' nn' c'] 27)).alloc (.cells #[.int .i64 (rdErr R : Int), .int .i64 x, .int .i64 y, .int .i64 z] 30)).cell? ⟨w1.heap.size, 2, none⟩ = some (.string T.st) := by simp
        have v3 : ((w1.alloc (.cells #[.int .i64 T.kd, .int .i64 T.nm, .string T.st, .slice o nn c, .slice o' nn' c'] 27)).alloc (.cells #[.int .i64 (rdErr R : Int), .int .i64 x, .int .i64 y, .int .i64 z] 30)).cell? ⟨w1.heap.size, 3, none⟩ = some (.slice o nn c) := by simp
        have v4 : ((w1.alloc (.cells #[.int .i64 T.kd, .int .i64 T.nm, .string T.st, .slice o nn c, .slice o' nn' c'] 27)).alloc (.cells #[.int .i64 (rdErr R : Int), .int .i64 x, .int .i64 y, .int .i64 z] 30)).cell? ⟨w1.heap.size, 4, none⟩ = some (.slice o' nn' c') := by simp
        have HOK : Hid (∀ T2 m q, R = .ok T2 m q → T = T2 ∧ HV ((w1.alloc (.cells #[.int .i64 T.kd, .int .i64 T.nm, .string T.st, .slice o nn c, .slice o' nn' c'] 27)).alloc (.cells #[.int .i64 (rdErr R : Int), .int .i64 x, .int .i64 y, .int .i64 z] 30)) T2 (.slice o nn c) (.slice o' nn' c')) := fun T2 m q e => ⟨(hok T2 m q e).1, (hok T2 m q e).2.hv.onto hk1⟩
        have HB2 := hid (vonto HB1.out hk1)
        clear hk1 hok HB1
        dsimp only
        go_upto_region 15 with fail
        generalize ((w1.alloc (.cells #[.int .i64 T.kd, .int .i64 T.nm, .string T.st, .slice o nn c, .slice o' nn' c'] 27)).alloc (.cells #[.int .i64 (rdErr R : Int), .int .i64 x, .int .i64 y, .int .i64 z] 30)) = X1 at f0 v0 v1 v2 v3 v4 HOK HB2 ⊢
        go_cut [81] (fun v wx => v = .bool false ∧ Hid (Below w.heap.size w wx))
        case first =>
          rcases hcase with ⟨h32, q, rfl⟩ | ⟨h32, a, rfl⟩
          · obtain ⟨hT, hv⟩ := HOK.out _ _ _ rfl
            rw [← hT] at hv
            have hgj : hgT T = j + 1 := by rw [hT, nest_hg]
            have CD := hid (deep_any (szT T) T _ _ X1 (Nat.le_refl _) hv (by rw [hT, nest_sz]; omega))
            rw [hgj] at CD
            replace f0 : X1.cell? ⟨w1.heap.size + 1, 0, none⟩ = some (.int .i64 0) := f0
            simp only [vv] at CD
            clear hT hv hgj
            go_wp2_with (go_at_call 16; go_must (refine CD.out.mono ?_; rintro e w2 ⟨rfl, hb2⟩))
            go_meet
            exact ⟨by first | rfl | (simp; omega) | simp, vonto HB2.out hb2⟩
          · replace f0 : X1.cell? ⟨w1.heap.size + 1, 0, none⟩ = some (.int .i64 2) := f0
            go_wp2_with fail
            go_meet
            exact ⟨by first | rfl | (simp; omega) | simp, HB2.out⟩
        case rest =>
        clear f0 v0 v1 v2 v3 v4 HOK HB2 hcase
        obtain ⟨rfl, HBc⟩ := hcut
        have hmk := Tryz.madeB
        have hcs := HBc.out.size
        go_wp2_with fail
        clear hmk
        go_loopw [14, 15] (fun rv iv wr => ∃ m : Nat, m ≤ M ∧ iv = .int .i64 m ∧ Hid (wr.ownsRow w.heap.size 5 1 rv (rep [48, 44] m).length (Lib.strCells (mkS (rep [48, 44] m)))) ∧ Hid (Below w.heap.size w wr)) (fun _ iv _ => M - (intOf iv).toNat)
        case atStart => exact ⟨0, Nat.zero_le _, rfl, Tryz.madeB_own _ _ hcs, valloc_bel HBc.out _⟩
        case round =>
          clear hcs HBc
          obtain ⟨m, hm, rfl, HO, HB⟩ := hrel
          have hbs := HB.out.size
          have hrl : (rep [48, 44] m).length ≤ 8400 := by rw [rep_len]; simp; omega
          by_cases hlt : m < M
          · go_wp2_with (at_builtin; go_must (refine wpList_append_own _ rfl _ _ 34 rfl w.heap.size 5 i1 (.int .u8 0) 1 1 Tryz.underlying34 hi hz0 hz1 hz2 rfl (by decide) _ (rep [48, 44] m).length _ rfl (HO.out.alloc _) ⟨wr.heap.size, 0, none⟩ 2 2 [.int .u8 48, .int .u8 44] rfl rfl (new_cells wr _ 5) (ints_oneCell .u8 [48, 44]) (by unfold maxLen; omega) (by omega) (by simp; omega) ?_; intro v1 w3 hown1 hgr1 _; have hown3 : w3.ownsRow w.heap.size 5 1 v1 (rep [48, 44] m ++ [48, 44]).length (Lib.strCells (mkS (rep [48, 44] m ++ [48, 44]))) := own_two hown1))
            have hb3 : Below w.heap.size w w3 := (HB.out.alloc hbs _).grown hgr1 (by simp; omega) (fun j hj => (HO.out.lt j hj).1)
            go_roundw
            case rel => exact ⟨m + 1, by omega, val_int (by omega), hown3, hb3⟩
            case measure => simp [intOf]; omega
          · obtain rfl : m = M := by omega
            have hcv := conv_own wr w.heap.size _ _ HO.out
            obtain ⟨R2, hR2, hcase2⟩ := HRW.out
            obtain ⟨rb, hrb⟩ : ∃ rb, mkS (rep [48, 44] m) = rb := ⟨_, rfl⟩
            have hrs : rb.size ≤ 8400 := by rw [← hrb, mkS_size]; exact hrl
            have e2 : ((⟨#[91]⟩ : ByteArray) ++ rb ++ (⟨#[48, 93]⟩ : ByteArray)).data.toList = [91] ++ (rep [48, 44] m ++ [48, 93]) := by
              rw [← hrb, show (⟨#[91]⟩ : ByteArray) = mkS [91] from rfl, show (⟨#[48, 93]⟩ : ByteArray) = mkS [48, 93] from rfl, mkS_app, mkS_app, mkS_list, List.append_assoc]
            have C2 := hid (fun X (hX : Below w.heap.size w X) => CP.out ((⟨#[91]⟩ : ByteArray) ++ rb ++ (⟨#[48, 93]⟩ : ByteArray)) X (by rw [ByteArray.size_append, ByteArray.size_append]; show 1 + rb.size + 2 ≤ _; omega) hX)
            rw [e2, hR2] at C2
            rw [hrb] at hcv
            clear e2 hR2 hrb HRW hrl hlt hm HO CP
            go_wp2_with fail
            go_at_call 15
            refine (C2.out _ HB.out).mono ?_
            intro e w4 hjq
            obtain ⟨T2, o2, n2, c2, o2', n2', c2', x2, y2, z2, rfl, hb4, hok⟩ := jq_two hjq
            have HB4 := hid (vonto HB.out hb4)
            have HL : Hid (∀ m2 q, R2 = .ok (listT (List.replicate (m + 1) (leafT 2 0 ⟨#[]⟩))) m2 q → n2 = m + 1) := fun m2 q e => by
              have := (hs_len (hok _ _ _ e).2).1
              simpa [listT, VT.ls] using this
            clear hjq hb4 C2 hok
            dsimp only
            rcases hcase2 with ⟨h96, q2, rfl⟩ | ⟨h96, a2, rfl⟩
            · obtain rfl := HL.out _ _ rfl
              have e0 : ((rdErr (.ok (listT (List.replicate (m + 1) (leafT 2 0 ⟨#[]⟩))) (m + 2) q2) : Nat) : Int) = 0 := rfl
              rw [e0]
              clear HL e0
              go_wp2_with fail
              go_ret
              exact ⟨by first | rfl | exact ret_bool (by simp; omega), valloc_bel (valloc_bel HB4.out _) _⟩
            · have e0 : ((rdErr (.bad 2 a2) : Nat) : Int) = 2 := rfl
              rw [e0]
              clear HL e0
              go_wp2_with fail
              go_ret
              exact ⟨by first | rfl | exact ret_bool (by simp; omega), valloc_bel (valloc_bel HB4.out _) _⟩
end Go.Proofs.YtkhjahpkbjafaaaGreatDoor
