import Derived.Test.YtapclgjaalammaaL13B
import Derived.Test.YtapclgjaalammaaMathCb
/- The statement CreadBounds: walked. -/
namespace Go.Proofs.Ytapclgjaalammaa
open Go.RowKit

set_option maxRecDepth 100000 in
set_option maxHeartbeats 1000000 in
theorem cbounds_out0 (c r : Int) (w : World)  (h0 : c < 1) :
    Calls Try.prog 5 #[.int .i64 c, .int .i64 r] w fun e w' => e = .returned (.bool true) ∧ Below w.heap.size w w' := by
  have CA := hid (awake13 w)
  go_enter Try.func5, Try.ntmps5
  go_wp2_with (go_at_call 8; go_must (refine CA.out.mono ?_; rintro e w0 ⟨rfl, hb0⟩))
  go_ret
  exact ⟨rfl, hb0⟩
set_option maxRecDepth 100000 in
set_option maxHeartbeats 1000000 in
theorem cbounds_out1 (c r : Int) (w : World) (h0 : 1 ≤ c) (h1 : 80 < c) :
    Calls Try.prog 5 #[.int .i64 c, .int .i64 r] w fun e w' => e = .returned (.bool true) ∧ Below w.heap.size w w' := by
  have CA := hid (awake13 w)
  go_enter Try.func5, Try.ntmps5
  go_wp2_with (go_at_call 8; go_must (refine CA.out.mono ?_; rintro e w0 ⟨rfl, hb0⟩))
  go_ret
  exact ⟨rfl, hb0⟩
set_option maxRecDepth 100000 in
set_option maxHeartbeats 1000000 in
theorem cbounds_out2 (c r : Int) (w : World) (h0 : 1 ≤ c) (h1 : c ≤ 80) (h2 : r < 1) :
    Calls Try.prog 5 #[.int .i64 c, .int .i64 r] w fun e w' => e = .returned (.bool true) ∧ Below w.heap.size w w' := by
  have CA := hid (awake13 w)
  go_enter Try.func5, Try.ntmps5
  go_wp2_with (go_at_call 8; go_must (refine CA.out.mono ?_; rintro e w0 ⟨rfl, hb0⟩))
  go_ret
  exact ⟨rfl, hb0⟩
set_option maxRecDepth 100000 in
set_option maxHeartbeats 1000000 in
theorem cbounds_out3 (c r : Int) (w : World) (h0 : 1 ≤ c) (h1 : c ≤ 80) (h2 : 1 ≤ r) (h3 : 600 < r) :
    Calls Try.prog 5 #[.int .i64 c, .int .i64 r] w fun e w' => e = .returned (.bool true) ∧ Below w.heap.size w w' := by
  have CA := hid (awake13 w)
  go_enter Try.func5, Try.ntmps5
  go_wp2_with (go_at_call 8; go_must (refine CA.out.mono ?_; rintro e w0 ⟨rfl, hb0⟩))
  go_ret
  exact ⟨rfl, hb0⟩
theorem Try.cmade (w : World) : (Instr.makeSlice 38 (.int .i64 0) (.int .i64 0)).run Try.prog w = .ok (.slice (some ⟨w.heap.size, 0, none⟩) 0 0) (w.alloc (.cells #[] 5)) := by kernel_rfl
theorem strC_one (c : UInt8) : Lib.strCells (mkS [c]) = [.int .u8 (c.toNat : Int)] := rfl
theorem rep_row {W : World} {base : Nat} {u : Value} {E : List (List (List UInt8) × Value)} {n : Nat} {fs : List (List UInt8)} (h : Rws W base u E) (hE : E.map (·.1) = List.replicate n fs) (hn : 1 ≤ n) : ∃ g c o2 c2, u = .slice (some ⟨g, 0, none⟩) n c ∧ n ≤ c ∧ W.cell? ⟨g, 0, none⟩ = some (.slice o2 fs.length c2) := by
  have hl : E.length = n := by have := congrArg List.length hE; simpa using this
  obtain ⟨o, cap, hu, hcap, hc⟩ := crows_at h
  have h0 : 0 < E.length := by omega
  obtain ⟨e0, he0⟩ : ∃ e, E[0]? = some e := ⟨_, List.getElem?_eq_getElem h0⟩
  obtain ⟨g, rfl, hcell⟩ := hc 0 e0 he0
  have hfs : e0.1 = fs := by
    have := congrArg (fun l => l[0]?) hE
    simp only [List.getElem?_map, he0, Option.map_some] at this
    rw [List.getElem?_replicate_of_lt (by omega)] at this
    simpa using this
  obtain ⟨o2, c2, hv⟩ := slice_shape (h.rows e0 (List.mem_of_getElem? he0))
  rw [hv, hfs] at hcell
  rw [hl] at hu hcap
  exact ⟨g, cap, o2, c2, hu, hcap, hcell⟩
set_option maxRecDepth 100000 in
set_option maxHeartbeats 8000000 in
theorem cbounds_in (n r : Nat) (w : World) (hn : n ≤ 79) (hr1 : 1 ≤ r) (hr : r ≤ 600) :
    Calls Try.prog 5 #[.int .i64 ((n : Int) + 1), .int .i64 (r : Int)] w fun e w' => e = .returned (.bool true) ∧ Below w.heap.size w w' := by
  have hmk := Try.cmade
  have CA := hid (awake13 w)
  have CR := hid (fun X => crows_any (mkS (repB (cbR n) r)) X (by rw [mkS_size]; have := cb_bound n r hn hr; omega))
  rw [mkS_list] at CR
  have HBD := hid (fun m (h : m ≤ 600) => cb_bound n m hn h)
  obtain ⟨i1, hi, hz0, hz1, hz2⟩ := info_parts Try.info_u8
  have g0 : ¬ (n : Int) + 1 < 1 := by omega
  have g1 : ¬ (80 : Int) < (n : Int) + 1 := by omega
  have g2 : ¬ (r : Int) < 1 := by omega
  have g3 : ¬ (600 : Int) < (r : Int) := by omega
  go_enter Try.func5, Try.ntmps5
  go_wp2_with fail
  go_at_call 8
  refine CA.out.mono ?_
  rintro e w0 ⟨rfl, hb0⟩
  have HB0 := hid hb0
  clear hb0 CA
  go_upto_region 7 with fail
  refine cwp_gen ?_
  intro W hW
  have HO : Hid (W.ownsRow w0.heap.size 5 1 (.slice (some ⟨w0.heap.size, 0, none⟩) 0 0) 0 (Lib.strCells (mkS []))) := hid (by rw [hW]; exact World.ownsRow_made w0 _ 0 (Nat.le_refl _) (by unfold maxLen; omega) rfl)
  have HBW : Hid (Below w0.heap.size w0 W) := hid (by rw [hW]; exact valloc_bel (Below.refl _ _) _)
  clear hW
  go_loopg [5, 6] 80 (fun gk v i wr => ∃ j : Nat, j ≤ n ∧ n ≤ j + gk ∧ i = .int .i64 ((j : Int) + 1) ∧ Hid (wr.ownsRow w0.heap.size 5 1 v (repB [44] j).length (Lib.strCells (mkS (repB [44] j)))) ∧ Hid (Below w0.heap.size w0 wr))
  case atStart => exact ⟨0, Nat.zero_le _, by omega, rfl, HO, HBW⟩
  case round =>
    obtain ⟨j, hj, hg, rfl, HOj, HBj⟩ := hrel
    clear HO HBW
    have hrl : (repB [44] j).length = j := by rw [repB_len]; simp
    have hbs := HBj.out.size
    rw [hrl] at HOj
    by_cases hlt : j < n
    · obtain ⟨g', rfl⟩ : ∃ g', gk = g' + 1 := ⟨gk - 1, by omega⟩
      have hltz : (j : Int) + 1 < (n : Int) + 1 := by omega
      go_wp2_with (at_builtin; go_must (refine wpList_append_own _ rfl (.tmp 33) (.tmp 34) 38 rfl w0.heap.size 5 i1 (.int .u8 0) 1 1 Try.underlying38 hi hz0 hz1 hz2 rfl (by decide) _ j _ rfl (HOj.out.alloc _) ⟨wr.heap.size, 0, none⟩ 1 1 [.int .u8 44] rfl rfl (new_cells wr _ 5) (by simp [Value.oneCell']) (by unfold maxLen; omega) (by omega) (by simp; omega) ?_; intro v4 w4 hown hgr _))
      have HB4 := hid ((valloc_bel HBj.out _).grown hgr (by have := (valloc_bel HBj.out (.cells #[.int .u8 44] 5)).size; exact this) (fun k hk => (HOj.out.lt k hk).1))
      have HO4 : Hid (w4.ownsRow w0.heap.size 5 1 v4 (repB [44] (j + 1)).length (Lib.strCells (mkS (repB [44] (j + 1))))) := hid (by
        rw [repB_snoc, List.length_append, hrl]
        have e : Lib.strCells (mkS (repB [44] j ++ [44])) = Lib.strCells (mkS (repB [44] j)) ++ [.int .u8 44] := by
          unfold Lib.strCells; rw [mkS_list, mkS_list, List.map_append]; rfl
        rw [e]; exact hown)
      clear hown hgr
      go_roundg g'
      case measure => omega
      case rel => exact ⟨j + 1, hlt, by omega, by go_num, HO4, HB4⟩
    · have hltz : ¬ (j : Int) + 1 < (n : Int) + 1 := by omega
      obtain rfl : j = n := by omega
      clear hlt
      go_upto_region 11 with (at_builtin; go_must (refine wpList_append_own _ rfl (.tmp 36) (.tmp 37) 38 rfl w0.heap.size 5 i1 (.int .u8 0) 1 1 Try.underlying38 hi hz0 hz1 hz2 rfl (by decide) _ j _ rfl (HOj.out.alloc _) ⟨wr.heap.size, 0, none⟩ 2 2 [.int .u8 120, .int .u8 10] rfl rfl (new_cells wr _ 5) (by simp [Value.oneCell']) (by unfold maxLen; omega) (by omega) (by simp; omega) ?_; intro v4 w4 hown hgr _))
      have HB4 := hid ((valloc_bel HBj.out _).grown hgr (by have := (valloc_bel HBj.out (.cells #[.int .u8 120, .int .u8 10] 5)).size; exact this) (fun k hk => (HOj.out.lt k hk).1))
      have HO4 : Hid (w4.ownsRow w0.heap.size 5 1 v4 (j + 2) (Lib.strCells (mkS (cbR j)))) := hid (by
        have e : Lib.strCells (mkS (cbR j)) = Lib.strCells (mkS (repB [44] j)) ++ [.int .u8 120, .int .u8 10] := by
          unfold Lib.strCells cbR; rw [mkS_list, mkS_list, List.map_append]; rfl
        rw [e]; exact hown)
      clear hown hgr HOj HBj
      obtain ⟨gr, cr, hv4⟩ : ∃ g c, v4 = .slice (some ⟨g, 0, none⟩) (j + 2) c := by
        rcases HO4.out.2 with ⟨-, h0⟩ | ⟨g, cap, cur, rfl, -⟩
        · omega
        · exact ⟨g, cap, rfl⟩
      subst hv4
      have HRC : Hid (∀ i u, (Lib.strCells (mkS (cbR j)))[i]? = some u → w4.cell? ((⟨gr, 0, none⟩ : Addr).add i) = some u) := hid (HO4.out.cells (g := gr) rfl)
      have hSl : (Lib.strCells (mkS (cbR j))).length = j + 2 := by unfold Lib.strCells; rw [mkS_list, List.length_map, cbR_len]
      clear HO4
      go_upto_region 13 with fail
      refine cwp_gen ?_
      intro V hV
      have HO5 : Hid (V.ownsRow w4.heap.size 5 1 (.slice (some ⟨w4.heap.size, 0, none⟩) 0 0) 0 (Lib.strCells (mkS []))) := hid (by rw [hV]; exact World.ownsRow_made w4 _ 0 (Nat.le_refl _) (by unfold maxLen; omega) rfl)
      have HB5 : Hid (Below w4.heap.size w4 V) := hid (by rw [hV]; exact valloc_bel (Below.refl _ _) _)
      clear hV
      go_loopg [7, 8] 601 (fun gk v i wr => ∃ m : Nat, m ≤ r ∧ r ≤ m + gk ∧ i = .int .i64 (m : Int) ∧ Hid (wr.ownsRow w4.heap.size 5 1 v (repB (cbR j) m).length (Lib.strCells (mkS (repB (cbR j) m)))) ∧ Hid (Below w4.heap.size w4 wr))
      case atStart => exact ⟨0, Nat.zero_le _, by omega, rfl, HO5, HB5⟩
      case round =>
        obtain ⟨m, hm, hg2, rfl, HOm, HBm⟩ := hrel
        clear HO5 HB5
        have hbd := HBD.out m (by omega)
        have hbs := HBm.out.size
        by_cases hml : m < r
        · obtain ⟨g', rfl⟩ : ∃ g', gk = g' + 1 := ⟨gk - 1, by omega⟩
          have hmz : (m : Int) < (r : Int) := by omega
          have HRC2 : Hid (∀ i u, (Lib.strCells (mkS (cbR j)))[i]? = some u → wr.cell? ((⟨gr, 0, none⟩ : Addr).add i) = some u) := hid (fun i u hu => keepCell HBm.out (HRC.out i u hu))
          go_wp2_with (at_builtin; go_must (refine wpList_append_own _ rfl (.tmp 45) (.tmp 46) 38 rfl w4.heap.size 5 i1 (.int .u8 0) 1 1 Try.underlying38 hi hz0 hz1 hz2 rfl (by decide) _ (repB (cbR j) m).length _ rfl HOm.out ⟨gr, 0, none⟩ (j + 2) cr (Lib.strCells (mkS (cbR j))) rfl (by rw [hSl]; omega) HRC2.out (by intro u hu; unfold Lib.strCells at hu; simp only [List.mem_map] at hu; obtain ⟨b, -, rfl⟩ := hu; rfl) (by unfold maxLen; omega) (by omega) hbs ?_; intro v6 w6 hown hgr _))
          have HB6 := hid (HBm.out.grown hgr hbs (fun k hk => (HOm.out.lt k hk).1))
          have HO6 : Hid (w6.ownsRow w4.heap.size 5 1 v6 (repB (cbR j) (m + 1)).length (Lib.strCells (mkS (repB (cbR j) (m + 1))))) := hid (by
            rw [repB_snoc, List.length_append, cbR_len]
            have e : Lib.strCells (mkS (repB (cbR j) m ++ cbR j)) = Lib.strCells (mkS (repB (cbR j) m)) ++ Lib.strCells (mkS (cbR j)) := by
              unfold Lib.strCells; rw [mkS_list, mkS_list, mkS_list, List.map_append]
            rw [e]; exact hown)
          clear hown hgr
          go_roundg g'
          case measure => omega
          case rel => exact ⟨m + 1, hml, by omega, by go_num, HO6, HB6⟩
        · have hmz : ¬ (m : Int) < (r : Int) := by omega
          obtain rfl : m = r := by omega
          have hcv := c_conv_own wr w4.heap.size _ (repB (cbR j) m) HOm.out
          have HBr := hid (vonto (vonto HB0.out HB4.out) HBm.out)
          clear hml HRC HOm HBm HB4 HB0
          by_cases hin : j < 64 ∧ m ≤ 513
          · rw [cb_ok j m hin.1 hin.2] at CR
            have h64 : ¬ (64 : Int) < (j : Int) + 1 := by omega
            have h513 : ¬ (513 : Int) < (m : Int) := by omega
            have hFl : (List.replicate j ([] : List UInt8) ++ [[120]]).length = j + 1 := by simp
            obtain ⟨FS, hFS⟩ : ∃ FS, List.replicate j ([] : List UInt8) ++ [[120]] = FS := ⟨_, rfl⟩
            rw [hFS] at CR hFl
            clear hFS hin
            generalize mkS (repB (cbR j) m) = y at CR hcv
            go_wp2_with fail
            go_at_call 9
            refine (CR.out _).mono ?_
            rintro e w7 ⟨o, n1, c, E, rfl, hE, hR, hb7⟩
            obtain ⟨g, c7, o2, c2, hu, hc1, k1⟩ := rep_row hR hE hr1
            injection hu with x1 x2 x3
            subst x1 x2 x3
            rw [hFl] at k1
            have HB7 := hid (vonto HBr.out hb7)
            clear hE hR CR hb7
            go_upto_region 17 with fail
            refine cwp_gen ?_
            intro U hU
            have b4 := box4 w7 (.int .i64 0) (.int .i64 0) (.int .i64 0) (.int .i64 0)
            have hbU : Below w7.heap.size w7 U := by rw [hU]; exact valloc_bel (Below.refl _ _) _
            rw [← hU] at b4
            obtain ⟨f0, -, -, -⟩ := b4
            replace k1 := keepCell hbU k1
            have HBU := hid (vonto HB7.out hbU)
            clear hU hbU HB7
            have hlq : (((j + 1 : Nat) : Int) == (j : Int) + 1) = true := by rw [beq_iff_eq]; omega
            have hn0 : (0 : Int) < (n1 : Int) := by omega
            go_wp2_with fail
            go_ret
            exact ⟨rfl, HBU.out⟩
          · obtain ⟨rr, hrr⟩ := cb_bad j m hn hr hr1 (by omega)
            rw [hrr] at CR
            generalize mkS (repB (cbR j) m) = y at CR hcv
            unfold Tq faultV at CR
            dsimp only at CR
            generalize ((clN y.size ((y.size - rr.length : Nat) : Int) : Nat) : Int) = c1 at CR
            generalize ((ofL y ((y.size - rr.length : Nat) : Int) : Nat) : Int) = c2 at CR
            generalize ((ofC y ((y.size - rr.length : Nat) : Int) : Nat) : Int) = c3 at CR
            clear hrr
            have hcase : (64 : Int) < (j : Int) + 1 ∨ (¬ (64 : Int) < (j : Int) + 1 ∧ (513 : Int) < (m : Int)) := by omega
            clear hin
            rcases hcase with h64 | ⟨h64, h513⟩
            all_goals
              go_wp2_with fail
              go_at_call 9
              refine (CR.out _).mono ?_
              rintro e w7 ⟨rfl, hb7⟩
              have HB7 := hid (vonto HBr.out hb7)
              clear CR hb7
              go_upto_region 17 with fail
              refine cwp_gen ?_
              intro U hU
              have b4 := box4 w7 (.int .i64 ((2 : Nat) : Int)) (.int .i64 c1) (.int .i64 c2) (.int .i64 c3)
              have hbU : Below w7.heap.size w7 U := by rw [hU]; exact valloc_bel (Below.refl _ _) _
              rw [show w7.alloc (.cells #[.int .i64 ((2 : Nat) : Int), .int .i64 c1, .int .i64 c2, .int .i64 c3] 26) = U from hU.symm] at b4
              obtain ⟨f0, -, -, -⟩ := b4
              have HBU := hid (vonto HB7.out hbU)
              clear hU hbU HB7
              go_wp2_with fail
              go_ret
              exact ⟨rfl, HBU.out⟩
theorem Try.creadBounds_walk (c r : Int) (_w0 : (Lit.int .i64 c).wf = true) (_w1 : (Lit.int .i64 r).wf = true) (w : World) :
    Calls Try.prog 5 #[.int .i64 c, .int .i64 r] w fun e w' => e = .returned (.bool true) ∧ Below w.heap.size w w' := by
  by_cases h0 : c < 1
  · exact cbounds_out0 c r w h0
  by_cases h1 : 80 < c
  · exact cbounds_out1 c r w (by omega) h1
  by_cases h2 : r < 1
  · exact cbounds_out2 c r w (by omega) (by omega) h2
  by_cases h3 : 600 < r
  · exact cbounds_out3 c r w (by omega) (by omega) (by omega) h3
  obtain ⟨N, rfl⟩ : ∃ Y : Nat, c = (Y : Int) + 1 := ⟨(c - 1).toNat, by omega⟩
  obtain ⟨R, rfl⟩ : ∃ Y : Nat, r = (Y : Int) := ⟨r.toNat, by omega⟩
  exact cbounds_in N R w (by omega) (by omega) (by omega)
end Go.Proofs.Ytapclgjaalammaa
