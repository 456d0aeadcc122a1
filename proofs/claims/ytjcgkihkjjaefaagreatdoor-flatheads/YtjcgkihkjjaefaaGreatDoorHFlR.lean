
import Derived.Test.YtjcgkihkjjaefaaGreatDoorHFlQ
import Derived.Test.YtjcgkihkjjaefaaGreatDoorHMathFh
/- FlatHeads, walked. -/
namespace Go.Proofs.YtjcgkihkjjaefaaGreatDoor
open Go.RowKit

theorem may_kid {T t : VT} (h : mayB 0 1 T = true) {i : Nat} (hi : T.ls[i]? = some t) : mayB 0 1 t = true := by
  obtain ⟨h1, h2, h3⟩ := good_sz h
  have hs := szT_ls T i t hi
  have hh := (hgL_get T.ls _).1 (Nat.le_refl _) i t hi
  have hh2 := hg_ls T
  unfold mayB
  rw [Bool.and_eq_true, decide_eq_true_iff]
  exact ⟨⟨by omega, by omega⟩, plain_ls h3 hi⟩
theorem head_small {T : VT} (hL : flatL T = false) {p : List PStep} (hp : p ∈ flatC T) : (nmP p).size ≤ 4096 := by
  unfold flatL at hL
  rw [Bool.or_eq_false_iff] at hL
  have := List.any_eq_false.1 hL.1 (nmP p) (List.mem_map.2 ⟨p, hp, rfl⟩)
  unfold longS at this
  simp only [decide_eq_true_eq] at this
  omega
/-- a column's name, read -/
theorem head_parse {T : VT} (hl : lomB T = true) (hw : wfT T) (hL : flatL T = false) {p : List PStep} (hp : p ∈ flatC T) (X : World) (hg : Glob5 X) :
    Calls Tryz.prog 19 #[.string ((⟨#[47]⟩ : ByteArray) ++ nmP p)] X fun e w' => ∃ v, e = .returned (.tuple #[v, .int .i64 0]) ∧ InP w' p v ∧ Below X.heap.size X w' := by
  obtain ⟨h1, h2⟩ := col_name hl hw hp
  have hs := head_small hL hp
  have hd : ((⟨#[47]⟩ : ByteArray) ++ nmP p).data.toList = textP p := by
    rw [ByteArray.data_append, Array.toList_append, ← h1]; rfl
  refine (parse_any _ X hg (by rw [ByteArray.size_append]; show 1 + _ ≤ _; omega)).mono ?_
  rintro e w' ⟨h | h, hb⟩
  · obtain ⟨v, q, e1, rfl, e2⟩ := h
    rw [hd, parse_text h2] at e1
    injection e1 with e1
    subst e1
    exact ⟨v, rfl, e2, hb⟩
  · rw [hd, parse_text h2] at h
    cases h.1
/-- the cells that the last comparison reads -/
def SS (b b4 : Nat) (al ar : Addr) (oh o1 o2 b1 : Option Addr) (j5 j L cL : Nat) (t : VT) (n1 c1 n2 c2 N ch cr b1c : Nat) (X : World) : Prop :=
  X.cell? ⟨b, 3, none⟩ = some (.slice (some al) L cL) ∧ X.cell? (al.add j5) = some (.int .i64 t.kd) ∧ X.cell? ⟨(al.add j5).block, (al.add j5).off + 1, none⟩ = some (.int .i64 t.nm) ∧ X.cell? ⟨(al.add j5).block, (al.add j5).off + 2, none⟩ = some (.string t.st) ∧ X.cell? ⟨(al.add j5).block, (al.add j5).off + 3, none⟩ = some (.slice o1 n1 c1) ∧ X.cell? ⟨(al.add j5).block, (al.add j5).off + 4, none⟩ = some (.slice o2 n2 c2) ∧ X.cell? ⟨b4, 0, none⟩ = some (.slice oh N ch) ∧ X.cell? ⟨b4, 1, none⟩ = some (.slice (some ar) L cr) ∧ X.cell? (ar.add j) = some (.slice b1 N b1c)
theorem SS.onto {b b4 : Nat} {al ar : Addr} {oh o1 o2 b1 : Option Addr} {j5 j L cL : Nat} {t : VT} {n1 c1 n2 c2 N ch cr b1c : Nat} {X Y : World} (h : SS b b4 al ar oh o1 o2 b1 j5 j L cL t n1 c1 n2 c2 N ch cr b1c X) (hb : Below X.heap.size X Y) : SS b b4 al ar oh o1 o2 b1 j5 j L cL t n1 c1 n2 c2 N ch cr b1c Y := by
  obtain ⟨y0, y1, y2, y3, y4, y5, y6, y7, y8⟩ := h
  exact ⟨keepCell hb y0, keepCell hb y1, keepCell hb y2, keepCell hb y3, keepCell hb y4, keepCell hb y5, keepCell hb y6, keepCell hb y7, keepCell hb y8⟩
theorem inp_nil (w : World) : InP w [] (.slice none 0 0) := ⟨⟨0, 0, none⟩, ⟨none, 0, rfl, Nat.le_refl _, Nat.zero_le _, fun h => absurd h (by simp)⟩, fun i s h => by simp at h⟩
theorem cnt_more {r : List ByteArray} {k : Nat} {c : ByteArray} (h : r[k]? = some c) : cntF (r.take (k + 1)) = cntF (r.take k) + if c.toList.isEmpty then 0 else 1 := by
  unfold cntF
  rw [List.take_add_one, h, Option.toList_some, List.countP_append]
  rw [show ([c].countP fun c => !c.toList.isEmpty) = if c.toList.isEmpty then 0 else 1 from by rw [List.countP_cons, List.countP_nil]; cases c.toList.isEmpty <;> rfl]
set_option maxRecDepth 100000 in
set_option maxHeartbeats 8000000 in
theorem Tryz.flatHeads_walk (T : VT) (x y : Value) (w : World) (hg : GlobF w) (hT : HV w T x y) :
    Calls Tryz.prog 6 #[vv T x y] w fun e w' => e = .returned (.bool true) ∧ Below w.heap.size w w' := by
  have hwf := hv_wfT (szT T) (Nat.le_refl _) hT
  have CA := hid (fun X (hX : Below w.heap.size w X) => awake16 X (hg.on hX))
  have CH := hid (fun X (hX : Below w.heap.size w X) => heavy_any T x y 200 32 X (hT.onto hX) (by omega) (by omega))
  have CF := hid (fun X (hX : Below w.heap.size w X) => flat_tab T x y X (hT.onto hX) (hg.on hX))
  have HG := hid hg
  obtain ⟨al, bl, f, g, p, q, oL, oM, cL, cM, rfl, rfl, -, -, hL3, hM3, hK, -, hlL, hlM, kL, kK, kM, rL, rM, -, -⟩ := hT.parts
  have hal : Below w.heap.size w (w.alloc (.cells #[.int .i64 T.kd, .int .i64 T.nm, .string T.st, .slice oL T.ls.length cL, .slice oM T.vs.length cM] 34)) := valloc_bel (Below.refl _ _) _
  have hcs : Cs (w.alloc (.cells #[.int .i64 T.kd, .int .i64 T.nm, .string T.st, .slice oL T.ls.length cL, .slice oM T.vs.length cM] 34)) w.heap.size [.int .i64 T.kd, .int .i64 T.nm, .string T.st, .slice oL T.ls.length cL, .slice oM T.vs.length cM] := fun i v h => cells_in rfl rfl (by simpa using h)
  simp only [vv] at CH CF ⊢
  have HkL := hid kL; have HrL := hid rL
  have HWF := hid hwf
  obtain ⟨F0, hF0⟩ : ∃ b, (!fitB T 32 200) = b := ⟨_, rfl⟩
  rw [hF0] at CH
  clear hT hg kL kK kM rL rM hK hM3 hwf hF0
  go_enter Tryz.func6, Tryz.ntmps6
  go_upto_region 1 with fail
  refine cewp_gen ?_
  intro W hW
  rw [← hW] at hal hcs
  have HB0 := hid hal
  clear hW hal
  go_wp2_with fail
  go_at_call 7
  refine (CA.out _ HB0.out).mono ?_
  rintro e w1 ⟨rfl, hb1⟩
  have hcs1 := hcs.onto hb1
  have g0 := hcs1 0 _ rfl
  have g1 := hcs1 1 _ rfl
  have g2 := hcs1 2 _ rfl
  have g3 := hcs1 3 _ rfl
  have g4 := hcs1 4 _ rfl
  have HB1 := hid (vonto HB0.out hb1)
  clear hb1 hcs CA HB0 hcs1
  go_wp2_with fail
  go_at_call 11
  refine (CH.out _ HB1.out).mono ?_
  rintro e w3 ⟨rfl, hb2⟩
  have g0 := keepCell hb2 g0
  have g1 := keepCell hb2 g1
  have g2 := keepCell hb2 g2
  have g3 := keepCell hb2 g3
  have g4 := keepCell hb2 g4
  have HB3 := hid (vonto HB1.out hb2)
  clear hb2 CH HB1
  cases F0 with
  | true =>
    go_wp2_with fail
    go_ret
    exact ⟨rfl, HB3.out⟩
  | false =>
  go_wp2_with fail
  go_at_call 8
  refine (CF.out _ HB3.out).mono ?_
  rintro e w4 ⟨oh, ch, orr, cr, rfl, hh, hr, hb4⟩
  have g3 := keepCell hb4 g3
  have HH := hid hh
  have HR := hid hr
  have HB4 := hid (vonto HB3.out hb4)
  clear hh hr hb4 CF HB3 g0 g1 g2 g4
  obtain ⟨E0, hE0⟩ : ∃ e, flatE T = e := ⟨_, rfl⟩
  rw [hE0]
  have HE0 := hid hE0
  clear hE0
  go_upto_region 6 with fail
  refine cewp_gen ?_
  intro W5 hW
  obtain ⟨x0, x1, hbW⟩ := tb2_of hW
  obtain ⟨b4, hb4⟩ : ∃ b, w4.heap.size = b := ⟨_, rfl⟩
  rw [hb4] at x0 x1
  have g3 := keepCell hbW g3
  have HBW := hid (vonto HB4.out hbW)
  have HHW := hid (HH.out.onto hbW)
  have HRW := hid (HR.out.onto hbW)
  rw [hb4]
  clear hW hbW HH HR HB4 hb4
  by_cases hz : E0 = 0
  case neg =>
    have tz : (E0 != 0) = true := by simpa using hz
    have e1 : flatH T = [] := by unfold flatH; rw [HE0.out, if_neg hz]
    have e2 : flatR T = [] := by unfold flatR; rw [HE0.out, if_neg hz]
    rw [e1, List.length_nil] at x0
    rw [e2, List.length_nil] at x1
    clear e1 e2 hL3
    go_wp2_with fail
    go_ret
    exact ⟨rfl, HBW.out⟩
  subst hz
  obtain ⟨z1, z2, z3, z4⟩ := flat_zero HE0.out
  obtain ⟨-, hmay, -⟩ := lom_parts z1
  have HMAY := hid hmay
  have q1 : flatH T = flatN T := by unfold flatH; rw [HE0.out]; rfl
  have q2 : flatR T = flatW T := by unfold flatR; rw [HE0.out]; rfl
  rw [q1] at HHW x0
  rw [q2] at HRW x1
  have hwl : (flatW T).length = T.ls.length := flatW_len T
  have HWR := hid (fun r (hr : r ∈ flatW T) => flatW_row hr)
  have HG3 := hid (flat_good hmay HWF.out)
  have CP := hid (fun (p : List PStep) (hp : p ∈ flatC T) (X : World) (hX : Below w.heap.size w X) => head_parse z1 HWF.out z4 hp X (HG.out.on hX).2)
  have HNS := hid (fun (p : List PStep) (hp : p ∈ flatC T) => head_small z4 hp)
  have HCN := hid (fun (i : Nat) (t : VT) (hi : T.ls[i]? = some t) => row_cnt hmay HWF.out hi)
  have HMK := hid (fun (i : Nat) (t : VT) (hi : T.ls[i]? = some t) => may_kid hmay hi)
  have hnl : (flatN T).length = (flatC T).length := by unfold flatN; rw [List.length_map]
  have HNC := hid (fun (i : Nat) (p : List PStep) (hp : (flatC T)[i]? = some p) => (show (flatN T)[i]? = some (nmP p) by unfold flatN; rw [List.getElem?_map, hp]; rfl))
  obtain ⟨C, hC⟩ : ∃ C, flatC T = C := ⟨_, rfl⟩
  obtain ⟨N, hN⟩ : ∃ N, flatN T = N := ⟨_, rfl⟩
  obtain ⟨Wr, hWr⟩ : ∃ Wr, flatW T = Wr := ⟨_, rfl⟩
  rw [hC] at z3 HG3 CP hnl HNC HNS
  rw [hN] at HHW HWR x0 hnl HNC
  rw [hWr] at HRW HWR hwl HCN x1
  rw [hwl] at x1 HRW
  have hNl : N.length ≤ 64 := by omega
  have HWL := hid hwl
  have HNL := hid hnl
  have h512 : T.ls.length ≤ 512 := z2
  obtain ⟨o0, c0, hx0⟩ : ∃ o c, Value.slice oh N.length ch = .slice o N.length c := ⟨_, _, rfl⟩
  clear hx0 o0 c0
  clear q1 q2 z1 z2 z3 z4 hmay hC hN hWr hwl hnl HE0
  go_wp2_with fail
  go_loopw [5, 6] (fun l i wr => ∃ (j : Nat) (P : List PStep) (u : Value), u = l ∧ i = .int .i64 j ∧ j ≤ N.length ∧ Hid (InP wr P u) ∧ Hid (0 < j → C[j - 1]? = some P) ∧ Hid (Below W5.heap.size W5 wr)) (fun _ i _ => N.length - (intOf i).toNat)
  case atStart => exact ⟨0, [], _, rfl, rfl, Nat.zero_le _, hid (inp_nil _), hid (fun h => absurd h (Nat.lt_irrefl 0)), hid (Below.refl _ _)⟩
  case round =>
    obtain ⟨j, P, l, rfl, rfl, hj, HI, HJ, HB⟩ := hrel
    have x0' := keepCell HB.out x0
    have x1' := keepCell HB.out x1
    by_cases hlt : j < N.length
    · clear x0 x1
      have hjc : j < C.length := by have := HNL.out; omega
      obtain ⟨c, hc⟩ : ∃ c, C[j]? = some c := ⟨C[j], List.getElem?_eq_getElem hjc⟩
      have hmem := List.mem_of_getElem? hc
      have hnm := HNC.out j c hc
      have CP1 := hid (CP.out c hmem)
      obtain ⟨ah, ⟨oh', ch', e1, -, -, h1⟩, h2⟩ := HHW.out
      injection e1 with e1 e1b e1c
      clear e1b e1c
      have h1 := h1 (by omega)
      rw [← e1] at h1
      subst h1
      have hcell := keepCell HB.out (h2 j _ hnm).1
      have hns := HNS.out c hmem
      have HC := hid hc
      have HBX := hid (vonto HBW.out HB.out)
      clear e1 h2 hnm hc hmem
      go_wp2_with fail
      go_at_call 19
      refine (CP1.out _ HBX.out).mono ?_
      rintro e w5 ⟨v, rfl, hip, hb5⟩
      have HIP := hid hip
      have HI5 := hid (HI.out.onto hb5)
      have HB5 := hid (vonto HB.out hb5)
      clear hip hb5 HI CP1 HB x0' x1' hcell
      by_cases h0 : j = 0
      · subst h0
        go_wp2_with fail
        go_roundw
        case rel => exact ⟨1, c, _, rfl, rfl, hlt, HIP, hid (fun _ => HC.out), HB5⟩
        case measure => simp [intOf]; omega
      · have hj0 : (0 : Int) < (j : Int) := by omega
        have CC := hid (pcmp_any P c l v w5 HI5.out HIP.out)
        have hcc : cmpP P c = -1 := by
          have hp := HJ.out (by omega)
          have hc := HC.out
          obtain ⟨i1, rfl⟩ := List.getElem?_eq_some_iff.1 hp
          obtain ⟨i2, rfl⟩ := List.getElem?_eq_some_iff.1 hc
          exact (List.pairwise_iff_getElem.1 HG3.out.s) _ _ i1 i2 (by omega)
        rw [hcc] at CC
        clear hcc
        go_wp2_with fail
        go_at_call 20
        refine CC.out.mono ?_
        rintro e w6 ⟨rfl, hb6⟩
        have HIP6 := hid (HIP.out.onto hb6)
        have HB6 := hid (vonto HB5.out hb6)
        clear CC hb6 HIP HI5 HB5
        go_wp2_with fail
        go_roundw
        case rel => exact ⟨j + 1, c, _, rfl, val_int (by omega), hlt, HIP6, hid (fun _ => HC.out), HB6⟩
        case measure => simp [intOf]; omega
    · have hjn : j = N.length := by omega
      obtain ⟨w6, rfl⟩ : ∃ X, X = wr := ⟨_, rfl⟩
      have g3' := keepCell HB.out g3
      have HRX := hid (HRW.out.onto HB.out)
      have HBX := hid (vonto HBW.out HB.out)
      clear x0 x1 g3 HHW HRW HI HJ HB CP HNC HG3
      subst hjn
      go_wp2_with fail
      go_loopw [9] (fun i wr9 => ∃ j : Nat, i = .int .i64 j ∧ j ≤ T.ls.length ∧ Hid (Below w6.heap.size w6 wr9)) (fun i _ => T.ls.length - (intOf i).toNat)
      case atStart => exact ⟨0, rfl, Nat.zero_le _, hid (Below.refl _ _)⟩
      case round =>
        obtain ⟨w9, rfl⟩ : ∃ X, X = wr := ⟨_, rfl⟩
        obtain ⟨j, rfl, hj, HB9⟩ := hrel
        have x0 := keepCell HB9.out x0'
        have x1 := keepCell HB9.out x1'
        by_cases hlt : j < T.ls.length
        · have hwl := HWL.out
          obtain ⟨t, ht⟩ : ∃ t, T.ls[j]? = some t := ⟨T.ls[j], List.getElem?_eq_getElem hlt⟩
          obtain ⟨r, hr, hcn⟩ := HCN.out j t ht
          have hrl := HWR.out r (List.mem_of_getElem? hr)
          obtain ⟨ar, ⟨or', cr', e1, -, -, h1⟩, h2⟩ := HRX.out
          injection e1 with e1 e1b e1c
          clear e1b e1c
          have h1 := h1 (by omega)
          rw [← e1] at h1
          subst h1
          obtain ⟨u1, i1c, i1s⟩ := h2 j r hr
          obtain ⟨ab, ⟨b1, b1c, rfl, -, -, h3⟩, h4⟩ := i1s
          rw [hrl] at i1c h3
          have i1c := keepCell HB9.out i1c
          have HRC := hid h4
          have HR3 := hid h3
          obtain ⟨NL, hNL⟩ : ∃ n, (lfT t []).length = n := ⟨_, rfl⟩
          rw [hNL] at hcn
          obtain rfl := hL3 (by omega)
          obtain ⟨d0, d1, d2, d3, d4⟩ := (HkL.out j t ht).onto (vonto HBX.out HB9.out)
          have hvt := HrL.out j t ht
          obtain ⟨o1, n1, c1, o2, n2, c2, hf, hg'⟩ := hv_slices hvt
          rw [hf] at d3 hvt
          rw [hg'] at d4 hvt
          have LV := hid (fun (X : World) (hX : Below w.heap.size w X) => (leaves_in t _ _ X (hvt.onto hX) (HMK.out j t ht)).mono (fun e w' ⟨v, h1, h2, h3⟩ => by
            obtain ⟨o, c, rfl⟩ := inlf_sl h2
            rw [hNL] at h1
            exact (⟨o, c, h1, h3⟩ : ∃ o c, e = .returned (.slice o NL c) ∧ Below X.heap.size X w')))
          simp only [vv] at LV
          have g3 := keepCell HB9.out g3'
          have HCT := hid hcn
          have HRL := hid hrl
          clear e1 h2 h3 h4 hr hf hg' hvt ht hNL hcn hrl hwl
          go_wp2_with fail
          go_loopw [10, 11] (fun n k wra => ∃ i : Nat, k = .int .i64 i ∧ i ≤ N.length ∧ (∃ m : Nat, n = .int .i64 (m : Int) ∧ m ≤ i ∧ Hid (m = cntF (r.take i))) ∧ wra = w9) (fun _ k _ => N.length - (intOf k).toNat)
          case atStart => exact ⟨0, rfl, Nat.zero_le _, ⟨0, rfl, Nat.le_refl _, hid rfl⟩, rfl⟩
          case round =>
            obtain ⟨i, rfl, hi, ⟨m, rfl, hm, HM⟩, rfl⟩ := hrel
            by_cases hli : i < N.length
            · obtain ⟨c, hc⟩ : ∃ c, r[i]? = some c := ⟨r[i]'(by rw [HRL.out]; exact hli), List.getElem?_eq_getElem (by rw [HRL.out]; exact hli)⟩
              have hcc := keepCell HB9.out (HRC.out i c hc).1
              have hmr := cnt_more hc
              obtain rfl := HR3.out (by omega)
              cases hE : c.toList.isEmpty with
              | true =>
                rw [hE] at hmr
                have HMR := hid hmr
                clear hc hmr d0 d1 d2 d3 d4
                go_wp2_with fail
                go_roundw
                case rel => exact ⟨i + 1, val_int (by omega), hli, ⟨m, rfl, by omega, hid (by rw [HMR.out, HM.out]; simp)⟩, trivial⟩
                case measure => simp [intOf]; omega
              | false =>
                rw [hE] at hmr
                have HMR := hid hmr
                clear hc hmr d0 d1 d2 d3 d4
                go_wp2_with fail
                go_roundw
                case rel => exact ⟨i + 1, val_int (by omega), hli, ⟨m + 1, val_int (by omega), by omega, hid (by rw [HMR.out, HM.out]; simp)⟩, trivial⟩
                case measure => simp [intOf]; omega
            · have hin : i = N.length := by omega
              subst hin
              obtain rfl : m = NL := by
                rw [HM.out, List.take_of_length_le (by rw [HRL.out]; omega)]; exact HCT.out
              clear HCT HRL HRC HR3 HM
              have hS0 : SS w.heap.size b4 al ar oh o1 o2 b1 (j * 5) j T.ls.length cL t n1 c1 n2 c2 N.length ch cr b1c wr.drew := ⟨g3, d0, d1, d2, d3, d4, x0, x1, i1c⟩
              go_wp2_with fail
              refine wp_region_held (S := SS w.heap.size b4 al ar oh o1 o2 b1 (j * 5) j T.ls.length cL t n1 c1 n2 c2 N.length ch cr b1c) (by kernel_rfl) ?_
              simp only [List.size_toArray, List.length_cons, List.length_nil]
              refine take_h (i := 0) (v := ?_) rfl (by kernel_rfl) (by kernel_rfl) (by kernel_rfl) (fun _ _ _ h => h) (by rfl) ?_ hS0 ?_
              rotate_left
              · (intro X hX; obtain ⟨y0, y1, y2, y3, y4, y5, y6, y7, y8⟩ := hX; go_simp; try with_reducible rfl)
              simp only [Act.put, List.setIfInBounds_toArray, List.set_cons_zero, List.set_cons_succ]
              refine take_h (i := 1) (v := ?_) rfl (by kernel_rfl) (by kernel_rfl) (by kernel_rfl) (fun _ _ _ h => h) (by rfl) ?_ hS0 ?_
              rotate_left
              · (intro X hX; obtain ⟨y0, y1, y2, y3, y4, y5, y6, y7, y8⟩ := hX; go_simp; try with_reducible rfl)
              simp only [Act.put, List.setIfInBounds_toArray, List.set_cons_zero, List.set_cons_succ]
              refine take_h (i := 2) (v := ?_) rfl (by kernel_rfl) (by kernel_rfl) (by kernel_rfl) (fun _ _ _ h => h) (by rfl) ?_ hS0 ?_
              rotate_left
              · (intro X hX; obtain ⟨y0, y1, y2, y3, y4, y5, y6, y7, y8⟩ := hX; go_simp; try with_reducible rfl)
              simp only [Act.put, List.setIfInBounds_toArray, List.set_cons_zero, List.set_cons_succ]
              refine take_h (i := 3) (v := ?_) rfl (by kernel_rfl) (by kernel_rfl) (by kernel_rfl) (fun _ _ _ h => h) (by rfl) ?_ hS0 ?_
              rotate_left
              · (intro X hX; obtain ⟨y0, y1, y2, y3, y4, y5, y6, y7, y8⟩ := hX; go_simp; try with_reducible rfl)
              simp only [Act.put, List.setIfInBounds_toArray, List.set_cons_zero, List.set_cons_succ]
              refine take_h (i := 4) (v := ?_) rfl (by kernel_rfl) (by kernel_rfl) (by kernel_rfl) (fun _ _ _ h => h) (by rfl) ?_ hS0 ?_
              rotate_left
              · (intro X hX; obtain ⟨y0, y1, y2, y3, y4, y5, y6, y7, y8⟩ := hX; go_simp; try with_reducible rfl)
              simp only [Act.put, List.setIfInBounds_toArray, List.set_cons_zero, List.set_cons_succ]
              refine take_h (i := 5) (v := ?_) rfl (by kernel_rfl) (by kernel_rfl) (by kernel_rfl) (fun _ _ _ h => h) (by rfl) ?_ hS0 ?_
              rotate_left
              · (intro X hX; obtain ⟨y0, y1, y2, y3, y4, y5, y6, y7, y8⟩ := hX; go_simp; try with_reducible rfl)
              simp only [Act.put, List.setIfInBounds_toArray, List.set_cons_zero, List.set_cons_succ]
              refine step_h (i := 6) rfl (by kernel_rfl) ?_
              intro KK hKK
              go_simp
              go_at_call 10
              refine (LV.out _ (vonto HBX.out HB9.out).drew).mono ?_
              rintro e w10 ⟨ol, cl, rfl, hb10⟩
              have hb10' : Below wr.heap.size wr w10 := vonto (Below.refl wr.heap.size wr).drew hb10
              go_wp2_with fail
              refine hKK.out _ _ (hS0.onto hb10) (fun hS1 => ?_)
              clear hKK KK hS0
              try simp only [Act.put, List.setIfInBounds_toArray, List.set_cons_zero, List.set_cons_succ]
              refine take_h (i := 7) (v := ?_) rfl (by kernel_rfl) (by kernel_rfl) (by kernel_rfl) (fun _ _ _ h => h) (by rfl) ?_ hS1 ?_
              rotate_left
              · (intro X hX; obtain ⟨y0, y1, y2, y3, y4, y5, y6, y7, y8⟩ := hX; go_simp; try with_reducible rfl)
              simp only [Act.put, List.setIfInBounds_toArray, List.set_cons_zero, List.set_cons_succ]
              refine take_h (i := 8) (v := ?_) rfl (by kernel_rfl) (by kernel_rfl) (by kernel_rfl) (fun _ _ _ h => h) (by rfl) ?_ hS1 ?_
              rotate_left
              · (intro X hX; obtain ⟨y0, y1, y2, y3, y4, y5, y6, y7, y8⟩ := hX; go_simp; try with_reducible rfl)
              simp only [Act.put, List.setIfInBounds_toArray, List.set_cons_zero, List.set_cons_succ]
              refine take_h (i := 9) (v := ?_) rfl (by kernel_rfl) (by kernel_rfl) (by kernel_rfl) (fun _ _ _ h => h) (by rfl) ?_ hS1 ?_
              rotate_left
              · (intro X hX; obtain ⟨y0, y1, y2, y3, y4, y5, y6, y7, y8⟩ := hX; go_simp; try with_reducible rfl)
              simp only [Act.put, List.setIfInBounds_toArray, List.set_cons_zero, List.set_cons_succ]
              refine take_h (i := 10) (v := ?_) rfl (by kernel_rfl) (by kernel_rfl) (by kernel_rfl) (fun _ _ _ h => h) (by rfl) ?_ hS1 ?_
              rotate_left
              · (intro X hX; obtain ⟨y0, y1, y2, y3, y4, y5, y6, y7, y8⟩ := hX; go_simp; try with_reducible rfl)
              simp only [Act.put, List.setIfInBounds_toArray, List.set_cons_zero, List.set_cons_succ]
              refine take_h (i := 11) (v := ?_) rfl (by kernel_rfl) (by kernel_rfl) (by kernel_rfl) (fun _ _ _ h => h) (by rfl) ?_ hS1 ?_
              rotate_left
              · (intro X hX; obtain ⟨y0, y1, y2, y3, y4, y5, y6, y7, y8⟩ := hX; go_simp; try with_reducible rfl)
              simp only [Act.put, List.setIfInBounds_toArray, List.set_cons_zero, List.set_cons_succ]
              refine take_h (i := 12) (v := ?_) rfl (by kernel_rfl) (by kernel_rfl) (by kernel_rfl) (fun _ _ _ h => h) (by rfl) ?_ hS1 ?_
              rotate_left
              · (intro X hX; obtain ⟨y0, y1, y2, y3, y4, y5, y6, y7, y8⟩ := hX; go_simp; try with_reducible rfl)
              simp only [Act.put, List.setIfInBounds_toArray, List.set_cons_zero, List.set_cons_succ]
              refine take_h (i := 13) (v := ?_) rfl (by kernel_rfl) (by kernel_rfl) (by kernel_rfl) (fun _ _ _ h => h) (by rfl) ?_ hS1 ?_
              rotate_left
              · (intro X hX; obtain ⟨y0, y1, y2, y3, y4, y5, y6, y7, y8⟩ := hX; go_simp; try with_reducible rfl)
              simp only [Act.put, List.setIfInBounds_toArray, List.set_cons_zero, List.set_cons_succ]
              refine take_h (i := 14) (v := ?_) rfl (by kernel_rfl) (by kernel_rfl) (by kernel_rfl) (fun _ _ _ h => h) (by rfl) ?_ hS1 ?_
              rotate_left
              · (intro X hX; obtain ⟨y0, y1, y2, y3, y4, y5, y6, y7, y8⟩ := hX; go_simp; try with_reducible rfl)
              simp only [Act.put, List.setIfInBounds_toArray, List.set_cons_zero, List.set_cons_succ]
              refine take_h (i := 15) (v := ?_) rfl (by kernel_rfl) (by kernel_rfl) (by kernel_rfl) (fun _ _ _ h => h) (by rfl) ?_ hS1 ?_
              rotate_left
              · (intro X hX; obtain ⟨y0, y1, y2, y3, y4, y5, y6, y7, y8⟩ := hX; go_simp; try with_reducible rfl)
              simp only [Act.put, List.setIfInBounds_toArray, List.set_cons_zero, List.set_cons_succ]
              refine take_h (i := 16) (v := ?_) rfl (by kernel_rfl) (by kernel_rfl) (by kernel_rfl) (fun _ _ _ h => h) (by rfl) ?_ hS1 ?_
              rotate_left
              · (intro X hX; obtain ⟨y0, y1, y2, y3, y4, y5, y6, y7, y8⟩ := hX; go_simp; try with_reducible rfl)
              simp only [Act.put, List.setIfInBounds_toArray, List.set_cons_zero, List.set_cons_succ]
              refine take_h (i := 17) (v := ?_) rfl (by kernel_rfl) (by kernel_rfl) (by kernel_rfl) (fun _ _ _ h => h) (by rfl) ?_ hS1 ?_
              rotate_left
              · (intro X hX; obtain ⟨y0, y1, y2, y3, y4, y5, y6, y7, y8⟩ := hX; go_simp; try with_reducible rfl)
              simp only [Act.put, List.setIfInBounds_toArray, List.set_cons_zero, List.set_cons_succ]
              refine take_h (i := 18) (v := ?_) rfl (by kernel_rfl) (by kernel_rfl) (by kernel_rfl) (fun _ _ _ h => h) (by rfl) ?_ hS1 ?_
              rotate_left
              · (intro X hX; obtain ⟨y0, y1, y2, y3, y4, y5, y6, y7, y8⟩ := hX; go_simp; try with_reducible rfl)
              simp only [Act.put, List.setIfInBounds_toArray, List.set_cons_zero, List.set_cons_succ]
              refine take_h (i := 19) (v := ?_) rfl (by kernel_rfl) (by kernel_rfl) (by kernel_rfl) (fun _ _ _ h => h) (by rfl) ?_ hS1 ?_
              rotate_left
              · (intro X hX; obtain ⟨y0, y1, y2, y3, y4, y5, y6, y7, y8⟩ := hX; go_simp; try with_reducible rfl)
              simp only [Act.put, List.setIfInBounds_toArray, List.set_cons_zero, List.set_cons_succ]
              refine take_h (i := 20) (v := ?_) rfl (by kernel_rfl) (by kernel_rfl) (by kernel_rfl) (fun _ _ _ h => h) (by rfl) ?_ hS1 ?_
              rotate_left
              · (intro X hX; obtain ⟨y0, y1, y2, y3, y4, y5, y6, y7, y8⟩ := hX; go_simp; try with_reducible rfl)
              simp only [Act.put, List.setIfInBounds_toArray, List.set_cons_zero, List.set_cons_succ]
              refine wpAnyH_done (by kernel_rfl) ?_ _
              have HB10 := hid (vonto HB9.out hb10')
              clear hS1 hb10 hb10' d0 d1 d2 d3 d4 x0 x1 g3 i1c LV
              go_wp2_with fail
              go_roundw
              case rel => exact ⟨j + 1, val_int (by omega), hlt, HB10⟩
              case measure => simp [intOf]; omega
        · have hjn : j = T.ls.length := by omega
          subst hjn
          have g3 := keepCell HB9.out g3'
          go_wp2_with fail
          go_ret
          exact ⟨rfl, vonto HBX.out HB9.out⟩
end Go.Proofs.YtjcgkihkjjaefaaGreatDoor
