import Derived.Test.YtjbccmnmcjmooaaDoorCpK
/- CprintCells. -/
namespace Go.Proofs.YtjbccmnmcjmooaaDoor
open Go.RowKit

theorem inS_own {w : World} {base : Nat} {v : Value} {ks : List ByteArray} (h : w.ownsRow base 9 1 v ks.length (ks.map Value.string)) (hs : ∀ s ∈ ks, s.size ≤ 100000) : InS w ks v := by
  rcases h with ⟨h0, ⟨rfl, h1⟩ | ⟨g, cap, cur, rfl, hb, hg, hn, hm, h2⟩⟩
  · refine ⟨⟨0, 0, none⟩, ⟨none, 0, by rw [h1], by omega, Nat.zero_le _, fun hp => by omega⟩, fun j p hj => ?_⟩
    have := lt_of_some hj
    omega
  · have hh : w.ownsRow base 9 1 (.slice (some ⟨g, 0, none⟩) ks.length cap) ks.length (ks.map Value.string) := ⟨h0, Or.inr ⟨g, cap, cur, rfl, hb, hg, hn, hm, h2⟩⟩
    refine ⟨⟨g, 0, none⟩, ⟨_, cap, rfl, hn, hm, fun _ => rfl⟩, fun j p hj => ⟨?_, by have := hs p (List.mem_of_getElem? hj); unfold maxLen; omega⟩⟩
    have hlt := lt_of_some hj
    rw [add_at, hh.cellAt j (by omega), List.getElem?_map, hj]; rfl
/-- two rows that were read -/
theorem two_read {W : World} {base : Nat} {o : Option Addr} {n c : Nat} {E : List (List (List UInt8) × Value)} {x : List UInt8} {xs : List (List UInt8)} (h : Rws W base (.slice o n c) E) (hE : E.map (·.1) = [x :: xs, x :: xs]) :
    ∃ g g1 c1 g2 c2, o = some ⟨g, 0, none⟩ ∧ n = 2 ∧ 2 ≤ c ∧ W.cell? ⟨g, 0, none⟩ = some (.slice (some ⟨g1, 0, none⟩) (xs.length + 1) c1) ∧ xs.length + 1 ≤ c1 ∧ W.cell? ⟨g, 1, none⟩ = some (.slice (some ⟨g2, 0, none⟩) (xs.length + 1) c2) ∧ xs.length + 1 ≤ c2 ∧ W.cell? ⟨g1, 0, none⟩ = some (.string (mkS x)) ∧ W.cell? ⟨g2, 0, none⟩ = some (.string (mkS x)) := by
  have hl : E.length = 2 := by have := congrArg List.length hE; simpa using this
  obtain ⟨e0, e1, rfl⟩ : ∃ e0 e1, E = [e0, e1] := by
    match E, hl with
    | [e0, e1], _ => exact ⟨e0, e1, rfl⟩
  simp only [List.map_cons, List.map_nil, List.cons.injEq, and_true] at hE
  have row : ∀ e ∈ [e0, e1], e.1 = x :: xs → ∃ g1 c1, e.2 = .slice (some ⟨g1, 0, none⟩) (xs.length + 1) c1 ∧ xs.length + 1 ≤ c1 ∧ W.cell? ⟨g1, 0, none⟩ = some (.string (mkS x)) := fun e he hx => by
    have hr := h.rows e he
    rw [hx] at hr
    have hr0 := hr
    rcases hr with ⟨h0, ⟨-, h1⟩ | ⟨g, cap, cur, e3, hb, hg, hn, h2⟩⟩
    · simp at h1
    · rw [e3] at hr0 ⊢
      refine ⟨g, cap, rfl, hn, ?_⟩
      rw [hr0.cellAt 0 (by simp)]; rfl
  have hown := h.own
  have hown0 := hown
  rcases hown with ⟨h0, ⟨-, h1⟩ | ⟨g, cap, cur, e3, hb, hg, hn, h2⟩⟩
  · simp at h1
  · injection e3 with q1 q2 q3
    subst q1 q2 q3
    obtain ⟨g1, c1, r1, r2, r3⟩ := row e0 (by simp) hE.1
    obtain ⟨g2, c2, s1, s2, s3⟩ := row e1 (by simp) hE.2
    refine ⟨g, g1, c1, g2, c2, rfl, rfl, hn, ?_, r2, ?_, s2, r3, s3⟩
    · rw [hown0.cellAt 0 (by simp), ← r1]; rfl
    · rw [hown0.cellAt 1 (by simp), ← s1]; rfl
/-- a field and some beside it -/
def cel (s : ByteArray) (b : Nat) : List ByteArray := s :: List.replicate b ⟨#[120]⟩
theorem cel_snoc (s : ByteArray) (b : Nat) : cel s (b + 1) = cel s b ++ [⟨#[120]⟩] := by
  unfold cel
  rw [List.cons_append]
  congr 1
  rw [List.replicate_succ']
theorem cel_len (s : ByteArray) (b : Nat) : (cel s b).length = b + 1 := by unfold cel; simp
theorem cel_rb (s : ByteArray) (j : Nat) : rb [cel s j, cel s j] = [s.data.toList :: List.replicate j [120], s.data.toList :: List.replicate j [120]] := by
  unfold rb cel; simp
theorem cel_size (s : ByteArray) (b : Nat) (hs : s.size ≤ 500) : ∀ x ∈ cel s b, x.size ≤ 100000 := by
  intro x hx
  unfold cel at hx
  rcases List.mem_cons.1 hx with rfl | hx
  · omega
  · rw [List.eq_of_mem_replicate hx]; decide
theorem cel_may (s : ByteArray) (b : Nat) (hs : s.size ≤ 500) (hb : b ≤ 10) (hv : VL s.data.toList) : mayB (rb [cel s b, cel s b]) = true := by
  have hok : pRowOk (b + 1) ((cel s b).map (·.data.toList)) = true := by
    unfold pRowOk
    rw [List.length_map, cel_len, decide_eq_true rfl, decide_eq_true (by omega), decide_eq_true (by omega)]
    simp only [Bool.true_and, List.all_eq_true]
    intro x hx
    obtain ⟨y, hy, rfl⟩ := List.mem_map.1 hx
    unfold cel at hy
    unfold pStrOk
    rcases List.mem_cons.1 hy with rfl | hy
    · rw [size_list, decide_eq_true (by omega), (valid_is _).2 hv]; rfl
    · rw [List.eq_of_mem_replicate hy]; decide
  have hlen : (rowB ((cel s b).map (·.data.toList))).length ≤ 20000 := by
    unfold rowB
    generalize decide (((cel s b).map (·.data.toList)).length = 1) = al
    have := pjoin_len 1002 (((cel s b).map (·.data.toList)).map (fldB · al)) (fun x hx => by
      obtain ⟨y, hy, rfl⟩ := List.mem_map.1 hx
      obtain ⟨z, hz, rfl⟩ := List.mem_map.1 hy
      have h1 := fldB_len z.data.toList al
      rw [size_list] at h1
      unfold cel at hz
      rcases List.mem_cons.1 hz with rfl | hz
      · omega
      · rw [List.eq_of_mem_replicate hz] at h1
        rw [List.eq_of_mem_replicate hz]
        have : (⟨#[120]⟩ : ByteArray).size = 1 := rfl
        omega)
    rw [List.length_map, List.length_map, cel_len] at this
    rw [List.length_append]
    simp only [List.length_cons, List.length_nil]
    omega
  unfold mayB rb
  simp only [List.map_cons, List.map_nil, List.all_cons, List.all_nil, Bool.and_true, List.headD_cons]
  rw [List.length_map, cel_len, hok]
  have h2 : (prnB [(cel s b).map (·.data.toList), (cel s b).map (·.data.toList)]).length ≤ 65536 := by
    rw [prn_cons, prn_cons, List.length_append, List.length_append]
    have : (prnB []).length = 0 := rfl
    omega
  rw [decide_eq_true h2]
  simp
theorem Tryd.info_strg : (Tryd.prog.info? 9).map (fun i => (i.zero, i.size, i.bytes)) = some (some (.string ⟨#[]⟩), 1, 16) := by kernel_rfl
theorem pbox5 (w : World) (a b c d : Value) : (w.alloc (.cells #[a, b, c, d] 30)).cell? ⟨w.heap.size, 0, none⟩ = some a := by
  have h := new_cells w [a, b, c, d] 30
  have a0 := h 0 _ rfl
  rw [add_at] at a0
  exact a0
/-- a byte that needs no quotes -/
theorem plain_next (s : ByteArray) (j : Nat) (h : j < s.size) : (!((s.data.toList.take (j + 1)).any stopB)) = (!((s.data.toList.take j).any stopB) && !stopB s[j]) := by
  rw [take_snoc s j h, List.any_append]; simp
set_option maxRecDepth 100000 in
set_option maxHeartbeats 8000000 in
theorem pcells_in (s : ByteArray) (b : Nat) (w : World) (hg : GlobC w) (hs : s.size ≤ 500) (hb : b ≤ 10) (hv : VL s.data.toList) :
    Calls Tryd.prog 6 #[.string s, .int .i64 (b : Int)] w fun e w' => e = .returned (.bool true) ∧ Below w.heap.size w w' := by
  have CA := hid (awake14 w hg)
  have CV := hid (fun X => rvalid_any s X (by unfold maxLen; omega))
  rw [rv_yes _ hv] at CV
  have HG := hid hg
  have HM := hid (cel_may s b hs hb hv)
  obtain ⟨i0, hi, hz0, hz1, hz2⟩ := info_parts Tryd.info_strg
  have HSZ := hid (fun k => cel_size s k hs)
  have CP := hid (fun X (hX : Below w.heap.size w X) (v : Value) (h : InR X [cel s b, cel s b] v) => pprint_any [cel s b, cel s b] v X (hg.on hX) h (bnd_two _ _ (by rw [cel_len]; omega) (cel_size s b hs) (by rw [cel_len]; omega) (cel_size s b hs)))
  have CR := hid (fun X => (show Calls Tryd.prog 15 #[.string (mkS (prnB (rb [cel s b, cel s b])))] X (Tq (mkS (prnB (rb [cel s b, cel s b]))) X (.ok (rb [cel s b, cel s b]))) from by
    have hM := HM.out
    have hz : (mkS (prnB (rb [cel s b, cel s b]))).size ≤ 65536 := by
      rw [mkS_size]
      unfold mayB at hM
      rw [Bool.and_eq_true, decide_eq_true_iff] at hM
      exact hM.2
    have := crows_any (mkS (prnB (rb [cel s b, cel s b]))) X (by omega)
    rw [mkS_list, csv_back _ hM] at this
    exact this))
  generalize mkS (prnB (rb [cel s b, cel s b])) = P at CP CR
  have CF := hid (fun X (hX : Below w.heap.size w X) (al : Bool) (ha : al = decide (b = 0)) => (show Calls Tryd.prog 10 #[.string s, .bool al] X fun e w' => e = .returned (.string (mkS (fldB s.data.toList (decide (b = 0))))) ∧ Below X.heap.size X w' from ha ▸ pfield_any s al X (hg.on hX) (by omega)))
  have hz500 : ¬ (500 : Int) < (s.size : Int) := by omega
  have hb0 : ¬ (b : Int) < 0 := by omega
  have hb10 : ¬ (10 : Int) < (b : Int) := by omega
  clear hg hv HM
  go_enter Tryd.func6, Tryd.ntmps6
  go_wp2_with fail
  go_at_call 7
  refine CA.out.mono ?_
  rintro e w0 ⟨rfl, hb0⟩
  have HB0 := hid hb0
  clear hb0 CA
  go_wp2_with fail
  go_at_call 17
  refine (CV.out _).mono ?_
  rintro e w1 ⟨rfl, hb1⟩
  have HB1 := hid (vonto HB0.out hb1)
  clear hb1 CV HB0
  go_upto_region 7 with fail
  refine cwp_gen ?_
  intro W hW
  have HO : Hid (W.ownsRow w1.heap.size 9 1 (.slice (some ⟨w1.heap.size, 0, none⟩) 1 1) (cel s 0).length ((cel s 0).map Value.string)) := hid (by rw [hW]; exact crow_new w1 _ _ _ (Nat.le_refl _))
  have HBW : Hid (Below w1.heap.size w1 W) := hid (by rw [hW]; exact valloc_bel (Below.refl _ _) _)
  clear hW
  go_loopg [5, 6] 12 (fun gk v i wr => ∃ j : Nat, j ≤ b ∧ b ≤ j + gk ∧ i = .int .i64 (j : Int) ∧ Hid (wr.ownsRow w1.heap.size 9 1 v (cel s j).length ((cel s j).map Value.string)) ∧ Hid (Below w1.heap.size w1 wr))
  case atStart => exact ⟨0, Nat.zero_le _, by omega, rfl, HO, HBW⟩
  case round =>
    obtain ⟨j, hj, hgk, rfl, HOj, HBj⟩ := hrel
    clear HO HBW
    rw [cel_len] at HOj
    have hbs := HBj.out.size
    by_cases hlt : j < b
    · obtain ⟨g', rfl⟩ : ∃ g', gk = g' + 1 := ⟨gk - 1, by omega⟩
      go_wp2_with (at_builtin; go_must (refine wpList_append_own _ rfl (.tmp 36) (.tmp 37) 24 rfl w1.heap.size 9 i0 (.string ⟨#[]⟩) 1 16 Tryd.underlying24 hi hz0 hz1 hz2 rfl (by decide) _ (j + 1) _ rfl (HOj.out.alloc _) ⟨wr.heap.size, 0, none⟩ 1 1 [.string ⟨#[120]⟩] rfl rfl (new_cells wr _ 9) (by simp [Value.oneCell']) (by unfold maxLen; omega) (by omega) (by simp; omega) ?_; intro v4 w4 hown hgr _))
      have HB4 := hid ((valloc_bel HBj.out _).grown hgr (by have := (valloc_bel HBj.out (.cells #[.string ⟨#[120]⟩] 9)).size; exact this) (fun k hk => (HOj.out.lt k hk).1))
      have HO4 : Hid (w4.ownsRow w1.heap.size 9 1 v4 (cel s (j + 1)).length ((cel s (j + 1)).map Value.string)) := hid (by
        rw [cel_len, cel_snoc, List.map_append]
        exact hown)
      clear hown hgr
      go_roundg g'
      case measure => omega
      case rel => exact ⟨j + 1, hlt, by omega, by go_num, HO4, HB4⟩
    · obtain rfl : j = b := by omega
      obtain ⟨o2, c2, rfl⟩ := slice_shape HOj.out
      have HI := hid (inS_own (ks := cel s j) (by rw [cel_len]; exact HOj.out) (HSZ.out j))
      have HR := hid (inR_new wr [.slice o2 (j + 1) c2, .slice o2 (j + 1) c2] [cel s j, cel s j] (by simp) rfl (fun i k u h1 h2 => by
        match i with
        | 0 =>
          simp only [List.getElem?_cons_zero, Option.some.injEq] at h1 h2
          subst h1 h2
          exact HI.out
        | 1 =>
          simp only [List.getElem?_cons_zero, List.getElem?_cons_succ, Option.some.injEq] at h1 h2
          subst h1 h2
          exact HI.out
        | i + 2 => simp at h1))
      have HBR := hid (valloc_bel (vonto HB1.out HBj.out) (.cells #[.slice o2 (j + 1) c2, .slice o2 (j + 1) c2] 24))
      have C1 := hid (CP.out _ HBR.out _ HR.out)
      clear CP HOj HI HR HSZ hi hz0 hz1 hz2 hlt
      go_wp2_with fail
      go_at_call 9
      refine C1.out.mono ?_
      rintro e w3 ⟨rfl, hb3⟩
      have HB3 := hid (vonto HBR.out hb3)
      clear hb3 C1 HBR
      go_wp2_with fail
      go_at_call 15
      refine (CR.out _).mono ?_
      rintro e w4 ⟨o4, n4, c4, E, rfl, hE, hW4, hb4⟩
      have HB4 := hid (vonto HB3.out hb4)
      obtain ⟨g, g1, k1, g2, k2, rfl, rfl, hc4, a0, hk1, a1, hk2, s1, s2⟩ := two_read hW4 (hE.trans (cel_rb s j))
      rw [show mkS s.data.toList = s from (mkS_of s _ rfl).symm] at s1 s2
      rw [List.length_replicate] at a0 a1 hk1 hk2
      clear hb4 CR HB3 hW4 hE
      go_upto_region 11 with fail
      refine cwp_gen ?_
      intro W2 hW2
      have f0 := pbox5 w4 (.int .i64 0) (.int .i64 0) (.int .i64 0) (.int .i64 0)
      have hbW : Below w4.heap.size w4 W2 := by rw [hW2]; exact valloc_bel (Below.refl _ _) _
      rw [← hW2] at f0
      have HB5 := hid (vonto HB4.out hbW)
      replace a0 := keepCell hbW a0
      replace a1 := keepCell hbW a1
      replace s1 := keepCell hbW s1
      replace s2 := keepCell hbW s2
      clear hW2 hbW HB4
      go_upto_region 13 with fail
      clear a0 a1 s1 s2 f0 hk1 hk2 hc4
      have C5 := hid (fun X (hX : Below w.heap.size w X) => CF.out X hX)
      clear CF
      by_cases hz : s.size = 0
      · have hs0 : s = ⟨#[]⟩ := by
          have : s.data.toList = [] := List.eq_nil_of_length_eq_zero (by rw [size_list]; exact hz)
          rw [mkS_of s _ rfl, this]; rfl
        by_cases hj0 : j = 0
        · subst hj0
          have C6 : Hid (∀ (X : World), Below w.heap.size w X → Calls Tryd.prog 10 #[.string s, .bool true] X fun e w' => e = .returned (.string ⟨#[34, 34]⟩) ∧ Below X.heap.size X w') := hid (fun X hX => by
            have := C5.out X hX true rfl
            rw [hs0] at this ⊢
            exact this)
          clear C5
          subst hs0
          go_wp2_with fail
          go_loopw [9, 10] (fun q i wr => q = .bool false ∧ i = .int .i64 0 ∧ Hid (Below w.heap.size w wr)) (fun _ _ _ => 0)
          case atStart => exact ⟨rfl, rfl, HB5.out⟩
          case round =>
            obtain ⟨rfl, rfl, HBr⟩ := hrel
            have C7 := hid (C6.out _ HBr.out)
            go_wp2_with fail
            go_at_call 10
            refine C7.out.mono ?_
            rintro e w6 ⟨rfl, hb6⟩
            have HB6 := hid (vonto HBr.out hb6)
            clear hb6 C7 C6
            go_wp2_with fail
            go_ret
            exact ⟨rfl, HB6.out⟩
        · have hjp : 0 < j := by omega
          have C6 : Hid (∀ (X : World) (al : Bool), al = decide (j = 0) → Below w.heap.size w X → Calls Tryd.prog 10 #[.string s, .bool al] X fun e w' => e = .returned (.string ⟨#[]⟩) ∧ Below X.heap.size X w') := hid (fun X al ha hX => by
            have := C5.out X hX al ha
            rw [decide_eq_false hj0] at this
            rw [hs0] at this ⊢
            exact this)
          clear C5
          subst hs0
          go_wp2_with fail
          go_loopw [9, 10] (fun q i wr => q = .bool true ∧ i = .int .i64 0 ∧ Hid (Below w.heap.size w wr)) (fun _ _ _ => 0)
          case atStart => exact ⟨rfl, rfl, HB5.out⟩
          case round =>
            obtain ⟨rfl, rfl, HBr⟩ := hrel
            have C7 := hid (fun al ha => C6.out _ al ha HBr.out)
            go_wp2_with fail
            go_at_call 10
            refine (C7.out _ (by rw [Bool.eq_iff_iff]; simp)).mono ?_
            rintro e w6 ⟨rfl, hb6⟩
            have HB6 := hid (vonto HBr.out hb6)
            clear hb6 C7 C6
            go_wp2_with fail
            go_ret
            exact ⟨rfl, HB6.out⟩
      · have hne : ¬ s.data.toList = [] := fun hc => by have := congrArg List.length hc; rw [size_list] at this; exact hz (by simpa using this)
        have hn0 : ¬ s.toList = [] := by rw [Lib.toList_data]; exact hne
        have hem : s.toList.isEmpty = false := by rw [Lib.toList_data, List.isEmpty_eq_false_iff]; exact hne
        have HEM := hid (show s.data.toList.isEmpty = false by rw [List.isEmpty_eq_false_iff]; exact hne)
        clear hne
        go_wp2_with fail
        go_loopw [9, 10] (fun q i wr => ∃ (k : Nat) (pl : Bool), k ≤ s.size ∧ i = .int .i64 k ∧ q = .bool pl ∧ Hid (pl = !((s.data.toList.take k).any stopB)) ∧ Hid (Below w.heap.size w wr)) (fun _ i _ => s.size - (intOf i).toNat)
        case atStart => exact ⟨0, true, Nat.zero_le _, rfl, rfl, rfl, HB5.out⟩
        case round =>
          obtain ⟨k, pl, hk, rfl, rfl, HPL, HBr⟩ := hrel
          clear HB5
          by_cases hkl : k < s.size
          · have HNX := hid (plain_next s k hkl)
            cases pl with
            | false =>
              have HN2 : Hid (false = !((s.data.toList.take (k + 1)).any stopB)) := hid (by rw [HNX.out, ← HPL.out]; rfl)
              clear HNX HPL
              go_wp2_with fail
              go_roundw
              case rel => exact ⟨k + 1, false, hkl, val_int (by omega), rfl, HN2.out, HBr.out⟩
              case measure => simp [intOf]; omega
            | true =>
              have HN2 : Hid ((!stopB s[k]) = !((s.data.toList.take (k + 1)).any stopB)) := hid (by rw [HNX.out, ← HPL.out]; rfl)
              clear HNX HPL
              by_cases c34 : s[k].toNat = 34
              · have e1 : ((s[k].toNat : Int) == 34) = true := by rw [c34]; rfl
                have e1' : (s[k].toNat : Int) = 34 := by rw [c34]; rfl
                rw [stop_of _ (Or.inl c34)] at HN2
                clear c34
                go_wp2_with fail
                go_roundw
                case rel => exact ⟨k + 1, false, hkl, val_int (by omega), rfl, HN2.out, HBr.out⟩
                case measure => simp [intOf]; omega
              have e1 : ((s[k].toNat : Int) == 34) = false := beq_eq_false_iff_ne.2 (by omega)
              have e1' : ¬ (s[k].toNat : Int) = 34 := by omega
              by_cases c44 : s[k].toNat = 44
              · have e2 : ((s[k].toNat : Int) == 44) = true := by rw [c44]; rfl
                have e2' : (s[k].toNat : Int) = 44 := by rw [c44]; rfl
                rw [stop_of _ (Or.inr (Or.inl c44))] at HN2
                clear c44 c34
                go_wp2_with fail
                go_roundw
                case rel => exact ⟨k + 1, false, hkl, val_int (by omega), rfl, HN2.out, HBr.out⟩
                case measure => simp [intOf]; omega
              have e2 : ((s[k].toNat : Int) == 44) = false := beq_eq_false_iff_ne.2 (by omega)
              have e2' : ¬ (s[k].toNat : Int) = 44 := by omega
              by_cases c10 : s[k].toNat = 10
              · have e3 : ((s[k].toNat : Int) == 10) = true := by rw [c10]; rfl
                have e3' : (s[k].toNat : Int) = 10 := by rw [c10]; rfl
                rw [stop_of _ (Or.inr (Or.inr (Or.inl c10)))] at HN2
                clear c44 c34 c10
                go_wp2_with fail
                go_roundw
                case rel => exact ⟨k + 1, false, hkl, val_int (by omega), rfl, HN2.out, HBr.out⟩
                case measure => simp [intOf]; omega
              have e3 : ((s[k].toNat : Int) == 10) = false := beq_eq_false_iff_ne.2 (by omega)
              have e3' : ¬ (s[k].toNat : Int) = 10 := by omega
              by_cases c13 : s[k].toNat = 13
              · have e4 : ((s[k].toNat : Int) == 13) = true := by rw [c13]; rfl
                have e4' : (s[k].toNat : Int) = 13 := by rw [c13]; rfl
                rw [stop_of _ (Or.inr (Or.inr (Or.inr c13)))] at HN2
                clear c44 c34 c10 c13
                go_wp2_with fail
                go_roundw
                case rel => exact ⟨k + 1, false, hkl, val_int (by omega), rfl, HN2.out, HBr.out⟩
                case measure => simp [intOf]; omega
              have e4 : ((s[k].toNat : Int) == 13) = false := beq_eq_false_iff_ne.2 (by omega)
              have e4' : ¬ (s[k].toNat : Int) = 13 := by omega
              rw [stop_not _ c34 c44 c10 c13] at HN2
              clear c44 c34 c10 c13
              go_wp2_with fail
              go_roundw
              case rel => exact ⟨k + 1, true, hkl, val_int (by omega), by simp [e1', e2', e3', e4'], HN2.out, HBr.out⟩
              case measure => simp [intOf]; omega
          · obtain rfl : k = s.size := by omega
            rw [List.take_of_length_le (by rw [size_list]; exact Nat.le_refl _)] at HPL
            have C7 := hid (fun al ha => C5.out _ HBr.out al ha)
            have HSF := hid (fldB_self s.data.toList (decide (j = 0)))
            rw [HEM.out, Bool.false_and, Bool.or_false] at HSF
            clear C5
            cases pl with
            | true =>
              have hF : mkS (fldB s.data.toList (decide (j = 0))) = s := by
                rw [HSF.out.2 (by have := HPL.out; cases h : s.data.toList.any stopB; rfl; rw [h] at this; simp at this)]
                exact (mkS_of s _ rfl).symm
              rw [hF] at C7
              clear hF HSF HPL
              go_wp2_with fail
              go_at_call 10
              refine (C7.out _ (by rw [Bool.eq_iff_iff]; simp)).mono ?_
              rintro e w6 ⟨rfl, hb6⟩
              have HB6 := hid (vonto HBr.out hb6)
              clear hb6 C7
              go_wp2_with fail
              go_ret
              exact ⟨rfl, HB6.out⟩
            | false =>
              obtain ⟨F, hF⟩ : ∃ F, mkS (fldB s.data.toList (decide (j = 0))) = F := ⟨_, rfl⟩
              have hne : ¬ F = s := fun e => by
                have h1 : fldB s.data.toList (decide (j = 0)) = s.data.toList := by rw [← mkS_list (fldB s.data.toList (decide (j = 0))), hF, e]
                have h2 := HSF.out.1 h1
                have h3 := HPL.out
                rw [h2] at h3; simp at h3
              have hne2 : ¬ F.toList = s.toList := fun e => hne (by rw [Lib.toList_data, Lib.toList_data] at e; rw [mkS_of F _ rfl, mkS_of s _ rfl, e])
              have hne4 : (F.toList == s.toList) = false := beq_eq_false_iff_ne.2 hne2
              rw [hF] at C7
              clear hF HSF HPL
              go_wp2_with fail
              go_at_call 10
              refine (C7.out _ (by rw [Bool.eq_iff_iff]; simp)).mono ?_
              rintro e w6 ⟨rfl, hb6⟩
              have HB6 := hid (vonto HBr.out hb6)
              clear hb6 C7
              go_wp2_with fail
              go_ret
              exact ⟨rfl, HB6.out⟩
set_option maxRecDepth 100000 in
set_option maxHeartbeats 2000000 in
theorem Tryd.cprintCells_walk (s : ByteArray) (b : Int) (_w0 : s.size ≤ maxLen) (_w1 : (Lit.int .i64 b).wf = true) (w : World) (hg : GlobC w) :
    Calls Tryd.prog 6 #[.string s, .int .i64 b] w fun e w' => e = .returned (.bool true) ∧ Below w.heap.size w w' := by
  have CA := hid (awake14 w hg)
  have CV := hid (fun X => rvalid_any s X _w0)
  unfold maxLen at _w0
  by_cases h5 : 500 < s.size
  · have h5' : (500 : Int) < (s.size : Int) := by omega
    clear CV
    go_enter Tryd.func6, Tryd.ntmps6
    go_wp2_with fail
    go_at_call 7
    refine CA.out.mono ?_
    rintro e w0 ⟨rfl, hb0⟩
    have HB0 := hid hb0
    clear hb0 CA
    go_wp2_with fail
    go_ret
    exact ⟨rfl, HB0.out⟩
  have h5' : ¬ (500 : Int) < (s.size : Int) := by omega
  by_cases hv : pos s.data.toList (vlk s.data.toList) = s.data.toList.length
  · by_cases hb0 : b < 0
    · rw [rv_yes _ hv] at CV
      go_enter Tryd.func6, Tryd.ntmps6
      go_wp2_with fail
      go_at_call 7
      refine CA.out.mono ?_
      rintro e w0 ⟨rfl, hb0⟩
      have HB0 := hid hb0
      clear hb0 CA
      go_wp2_with fail
      go_at_call 17
      refine (CV.out _).mono ?_
      rintro e w1 ⟨rfl, hb1⟩
      have HB1 := hid (vonto HB0.out hb1)
      clear hb1 CV
      go_wp2_with fail
      go_ret
      exact ⟨rfl, HB1.out⟩
    by_cases hb10 : 10 < b
    · rw [rv_yes _ hv] at CV
      go_enter Tryd.func6, Tryd.ntmps6
      go_wp2_with fail
      go_at_call 7
      refine CA.out.mono ?_
      rintro e w0 ⟨rfl, hb0⟩
      have HB0 := hid hb0
      clear hb0 CA
      go_wp2_with fail
      go_at_call 17
      refine (CV.out _).mono ?_
      rintro e w1 ⟨rfl, hb1⟩
      have HB1 := hid (vonto HB0.out hb1)
      clear hb1 CV
      go_wp2_with fail
      go_ret
      exact ⟨rfl, HB1.out⟩
    obtain ⟨n, rfl⟩ : ∃ n : Nat, b = (n : Int) := ⟨b.toNat, by omega⟩
    exact pcells_in s n w hg (by omega) (by omega) hv
  · rw [rv_no _ hv] at CV
    generalize pos s.data.toList (vlk s.data.toList) = q at CV
    have hq : (0 : Int) ≤ (q : Int) := by omega
    clear hv
    go_enter Tryd.func6, Tryd.ntmps6
    go_wp2_with fail
    go_at_call 7
    refine CA.out.mono ?_
    rintro e w0 ⟨rfl, hb0⟩
    have HB0 := hid hb0
    clear hb0 CA
    go_wp2_with fail
    go_at_call 17
    refine (CV.out _).mono ?_
    rintro e w1 ⟨rfl, hb1⟩
    have HB1 := hid (vonto HB0.out hb1)
    clear hb1 CV
    go_wp2_with fail
    go_ret
    exact ⟨rfl, HB1.out⟩
end Go.Proofs.YtjbccmnmcjmooaaDoor
