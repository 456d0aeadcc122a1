/- PathParts, walked: a path's text is that of its beginning and of what goes on behind it; it leads first there, then on. -/
import Derived.Test.YtjffhjdjoankcaaGreatDoorPathAwake
import Derived.Test.YtjffhjdjoankcaaGreatDoorRefVal2
import Derived.Test.YtjffhjdjoankcaaGreatDoorRefVal4
import Derived.Test.YtjffhjdjoankcaaGreatDoorVLike
namespace Go.Proofs.YtjffhjdjoankcaaGreatDoor
open Go.RowKit

theorem add_add (a : Addr) (x y : Nat) : (a.add x).add y = a.add (x + y) := by
  unfold Addr.add
  by_cases hx : x = 0
  · subst hx; simp
  · by_cases hy : y = 0
    · subst hy; simp
    · simp [hx, hy, Nat.add_assoc]
theorem inp_drop {w : World} {ps : List PStep} {b : Addr} {n c m : Nat} (h : InP w ps (.slice (some b) n c)) (hm : m ≤ n) : InP w (ps.drop m) (.slice (if c = m then some b else some (b.add (m * 3))) (n - m) (c - m)) := by
  obtain ⟨a, ⟨o, cap, e, h1, h2, h3⟩, hc⟩ := h
  injection e with e1 e2 e3
  subst e2 e3
  by_cases hcm : c = m
  · have hl : ps.length = m := by omega
    rw [if_pos hcm, List.drop_eq_nil_of_le (by omega), hl]
    exact ⟨a, ⟨_, _, by rw [Nat.sub_self]; rfl, by simp, by omega, fun h0 => absurd h0 (by simp)⟩, fun i s hs => by simp at hs⟩
  · rw [if_neg hcm]
    by_cases hz : ps.length = m
    · rw [List.drop_eq_nil_of_le (by omega)]
      exact ⟨a, ⟨_, _, by rw [hz, Nat.sub_self]; rfl, by simp, by omega, fun h0 => absurd h0 (by simp)⟩, fun i s hs => by simp at hs⟩
    · have ha : o = some a := h3 (by omega)
      rw [← e1] at ha
      injection ha with ha
      subst ha
      refine ⟨b.add (m * 3), ⟨_, _, by rw [List.length_drop], by rw [List.length_drop]; omega, by omega, fun _ => rfl⟩, fun i s hs => ?_⟩
      rw [List.getElem?_drop] at hs
      rw [add_add, ← Nat.add_mul]
      exact hc (m + i) s hs
theorem sz_get : ∀ (p : List PStep) (T t : VT), getP T p = some t → szT t ≤ szT T
  | [], T, t, h => by simp only [getP] at h; injection h with h; subst h; exact Nat.le_refl _
  | s :: p, T, t, h => by
    simp only [getP] at h
    cases h1 : idxT T s with
    | none => simp [h1] at h
    | some i =>
      cases h2 : kidT T s i with
      | none => simp [h1, h2] at h
      | some u =>
        simp [h1, h2] at h
        have := kid_small h2
        have := sz_get p u t h
        omega
theorem sz_getD {T : VT} (p : List PStep) (h : szT T ≤ 1000000) : szT ((getP T p).getD zeroT) ≤ 1000000 := by
  cases hg : getP T p with
  | none => decide
  | some t => have := sz_get p T t hg; simp only [Option.getD_some]; omega
theorem text_small : ∀ {p : List PStep}, (∀ s ∈ p, Small s) → (textP p).length ≤ p.length * 2000003
  | [], _ => by simp [textP]
  | s :: p, h => by
    have h1 := stepT_len (h s (by simp))
    have h2 := text_small (p := p) (fun t ht => h t (by simp [ht]))
    have e : textP (s :: p) = 47 :: stepT s ++ textP p := rfl
    rw [e]
    simp only [List.length_cons, List.length_append]
    omega
theorem text_size {p : List PStep} (hl : p.length ≤ 50) (h : ∀ s ∈ p, Small s) : (mkS (textP p)).size ≤ 200000000 := by
  have := text_small h
  rw [← size_list, mkS_list]; omega
theorem text_cut (p q : List PStep) : mkS (textP (p ++ q)) = mkS (textP p) ++ mkS (textP q) := by
  rw [text_app]
  apply ba_eq
  rw [ByteArray.data_append, mkS_list]
  simp [mkS_list]
theorem small_all {p : List PStep} (h : pathOk p = true) : ∀ s ∈ p, Small s := by
  unfold pathOk at h
  rw [Bool.and_eq_true] at h
  intro s hs
  have hk := List.all_eq_true.1 h.2 s hs
  rcases frm_of hk with ⟨h1, h2, h3, h4⟩ | ⟨h1, h2⟩
  · exact ⟨by rw [h2]; decide, by omega, by omega⟩
  · refine ⟨?_, by omega, by omega⟩
    unfold stepOk at hk
    rw [if_neg (by rw [h1]; decide), Bool.and_eq_true] at hk
    have := hk.2
    unfold strOkB at this
    rw [Bool.and_eq_true, decide_eq_true_eq] at this
    omega
set_option maxRecDepth 100000 in
set_option maxHeartbeats 8000000 in
theorem pparts_walk (T : VT) (ps : List PStep) (x y v : Value) (c : Int) (hc : (Lit.int .i64 c).wf = true) (w : World) (hg : Glob5 w) (hT : HV w T x y) (hp : InP w ps v) :
    Calls Tryz.prog 9 #[vv T x y, v, .int .i64 c] w fun e w' => e = .returned (.bool true) ∧ Below w.heap.size w w' := by
  have HG := hid hg
  have HP := hid hp
  have HT := hid hT
  obtain ⟨o1, n1, c1, o2, n2, c2, rfl, rfl⟩ := hv_slices hT
  obtain ⟨a, ⟨op, cp, rfl, hp1, hp2, hp3⟩, -⟩ := hp
  unfold maxLen at hp2
  clear hg hT
  simp only [vv]
  go_enter Tryz.func9, Tryz.ntmps9
  go_wp2_with fail
  have hal := valloc_bel (Below.refl w.heap.size w) (.cells #[.int .i64 T.kd, .int .i64 T.nm, .string T.st, .slice o1 n1 c1, .slice o2 n2 c2] 31)
  have B0 := bx_new HT.out 31
  go_at_call 10
  refine (pawake_any _ (HG.out.on hal)).mono ?_
  rintro e w1 ⟨rfl, hb1⟩
  have B1 := hid (B0.onto hb1)
  have P1 := hid ((HP.out.onto hal).onto hb1)
  have G1 := hid ((HG.out.on hal).on hb1)
  have H1 := hid (vonto hal hb1)
  clear hal hb1 B0 HG HP HT
  obtain ⟨k0, k1, k2, k3, k4⟩ := B1.out.cells
  have HHV := hid (heavy_any T (.slice o1 n1 c1) (.slice o2 n2 c2) 150 32 w1 B1.out.2 (by decide) (by decide))
  simp only [vv] at HHV
  go_wp2_with fail
  go_at_call 24
  refine HHV.out.mono ?_
  rintro e w2 ⟨rfl, hb2⟩
  have B2 := hid (B1.out.onto hb2)
  have P2 := hid (P1.out.onto hb2)
  have G2 := hid (G1.out.on hb2)
  have H2 := hid (vonto H1.out hb2)
  clear hb2 B1 P1 G1 H1 HHV k0 k1 k2 k3 k4
  cases hfit : fitB T 32 150 with
  | false =>
    simp only [Bool.not_false]
    go_wp2_with fail
    go_ret
    exact ⟨rfl, H2.out⟩
  | true =>
    have hsz : szT T ≤ 1000000 := by
      unfold fitB at hfit
      have := (of_decide_eq_true hfit).2
      omega
    clear hfit
    simp only [Bool.not_true]
    go_wp2_with fail
    go_at_call 16
    refine (may_any ps _ _ P2.out).mono ?_
    rintro e w3 ⟨rfl, hb3⟩
    have B3 := hid (B2.out.onto hb3)
    have P3 := hid (P2.out.onto hb3)
    have G3 := hid (G2.out.on hb3)
    have H3 := hid (vonto H2.out hb3)
    clear hb3 B2 P2 G2 H2
    cases hok : pathOk ps with
    | false =>
      go_wp2_with fail
      go_ret
      exact ⟨rfl, H3.out⟩
    | true =>
      have hlen : ps.length ≤ 50 := by
        unfold pathOk at hok
        rw [Bool.and_eq_true, decide_eq_true_eq] at hok
        exact hok.1
      have HSM := hid (small_all hok)
      clear hok
      by_cases hc0 : c < 0
      · go_wp2_with fail
        go_ret
        exact ⟨rfl, H3.out⟩
      · by_cases hc1 : c > ps.length
        · go_wp2_with fail
          go_ret
          exact ⟨rfl, H3.out⟩
        · obtain ⟨m, rfl⟩ : ∃ m : Nat, c = m := ⟨c.toNat, by omega⟩
          have hm : m ≤ ps.length := by omega
          clear hc0 hc1 hc
          go_wp2_with fail
          have hdr : Below w3.heap.size w3 w3.drew := (Below.refl _ _).drew
          cases op with
          | none =>
            have hl0 : ps.length = 0 := by
              rcases Nat.eq_zero_or_pos ps.length with h | h
              · exact h
              · have := hp3 h; cases this
            have hm0 : m = 0 := by omega
            subst hm0
            have P4 := hid (P3.out.onto hdr)
            rw [hl0] at hp1 P4 ⊢
            have A4 := hid (inp_take P4.out (Nat.le_refl 0))
            have D4 : Hid (InP w3.drew (ps.drop 0) (.slice none 0 cp)) := P4
            have B4 := hid (B3.out.onto hdr)
            have G4 := hid (G3.out.on hdr)
            have H4 := hid (vonto H3.out hdr)
            go_region
            clear hp1 hp2 hp3 hm hl0 hdr P3 G3 B3 H3
            generalize w3.drew = W at P4 A4 D4 B4 G4 H4 ⊢
            have HPS : Hid (ps = ps.take 0 ++ ps.drop 0) := hid (List.take_append_drop 0 ps).symm
            have LA : (ps.take 0).length ≤ 50 := by rw [List.length_take]; omega
            have LD : (ps.drop 0).length ≤ 50 := by rw [List.length_drop]; omega
            have SA := hid (fun s (hs : s ∈ ps.take 0) => HSM.out s (List.mem_of_mem_take hs))
            have SD := hid (fun s (hs : s ∈ ps.drop 0) => HSM.out s (List.mem_of_mem_drop hs))
            generalize ps.take 0 = pA at A4 HPS LA SA
            generalize ps.drop 0 = pD at D4 HPS LD SD
            as_aux_lemma =>
            obtain ⟨k0, k1, k2, k3, k4⟩ := B4.out.cells
            go_wp2_with fail
            go_at_call 12
            refine (pget_any T _ _ _ _ _ B4.out.2 hsz A4.out).mono ?_
            rintro e w5 ⟨R, X, Y, rfl, hR, hf5, hb5⟩
            have HR := hid hR
            have hszR : szT R ≤ 1000000 := by rw [hR]; exact sz_getD _ hsz
            obtain ⟨xo1, xn1, xc1, xo2, xn2, xc2, rfl, rfl⟩ := hv_slices hf5.hv
            simp only [vv]
            have hal := valloc_bel (Below.refl w5.heap.size w5) (.cells #[.int .i64 R.kd, .int .i64 R.nm, .string R.st, .slice xo1 xn1 xc1, .slice xo2 xn2 xc2] 31)
            have BR := hid (bx_new hf5.hv 31)
            have B5 := hid ((B4.out.onto hb5).onto hal)
            have P5 := hid ((P4.out.onto hb5).onto hal)
            have A5 := hid ((A4.out.onto hb5).onto hal)
            have D5 := hid ((D4.out.onto hb5).onto hal)
            have G5 := hid ((G4.out.on hb5).on hal)
            have H5 := hid (vonto (vonto H4.out hb5) hal)
            clear hR hf5 hb5 hal B4 P4 A4 D4 G4 H4 k0 k1 k2 k3 k4
            obtain ⟨k0, k1, k2, k3, k4⟩ := BR.out.cells
            go_wp2_with fail
            generalize (w5.alloc (.cells #[.int .i64 R.kd, .int .i64 R.nm, .string R.st, .slice xo1 xn1 xc1, .slice xo2 xn2 xc2] 31)) = W5 at k0 k1 k2 k3 k4 BR B5 P5 A5 D5 G5 H5 ⊢
            generalize w5.heap.size = b5 at BR k0 k1 k2 k3 k4 ⊢
            go_at_call 12
            refine (pget_any R _ _ _ _ _ BR.out.2 hszR D5.out).mono ?_
            rintro e w6 ⟨R2, X, Y, rfl, hR2, hf6, hb6⟩
            have HR2 := hid hR2
            obtain ⟨yo1, yn1, yc1, yo2, yn2, yc2, rfl, rfl⟩ := hv_slices hf6.hv
            simp only [vv]
            have hal := valloc_bel (Below.refl w6.heap.size w6) (.cells #[.int .i64 R2.kd, .int .i64 R2.nm, .string R2.st, .slice yo1 yn1 yc1, .slice yo2 yn2 yc2] 31)
            have BR2 := hid (bx_new hf6.hv 31)
            have B6 := hid ((B5.out.onto hb6).onto hal)
            have P6 := hid ((P5.out.onto hb6).onto hal)
            have A6 := hid ((A5.out.onto hb6).onto hal)
            have D6 := hid ((D5.out.onto hb6).onto hal)
            have G6 := hid ((G5.out.on hb6).on hal)
            have H6 := hid (vonto (vonto H5.out hb6) hal)
            clear hR2 hf6 hb6 hal B5 P5 A5 D5 G5 H5 k0 k1 k2 k3 k4 BR
            obtain ⟨k0, k1, k2, k3, k4⟩ := B6.out.cells
            go_wp2_with fail
            generalize (w6.alloc (.cells #[.int .i64 R2.kd, .int .i64 R2.nm, .string R2.st, .slice yo1 yn1 yc1, .slice yo2 yn2 yc2] 31)) = W6 at k0 k1 k2 k3 k4 BR2 B6 P6 A6 D6 G6 H6 ⊢
            generalize w6.heap.size = b6 at BR2 ⊢
            go_at_call 12
            refine (pget_any T _ _ _ _ _ B6.out.2 hsz P6.out).mono ?_
            rintro e w7 ⟨R3, X, Y, rfl, hR3, hf7, hb7⟩
            have HR3 := hid hR3
            obtain ⟨zo1, zn1, zc1, zo2, zn2, zc2, rfl, rfl⟩ := hv_slices hf7.hv
            simp only [vv]
            have hal := valloc_bel (Below.refl w7.heap.size w7) (.cells #[.int .i64 R3.kd, .int .i64 R3.nm, .string R3.st, .slice zo1 zn1 zc1, .slice zo2 zn2 zc2] 31)
            have BR3 := hid (bx_new hf7.hv 31)
            have BR2' := hid ((BR2.out.onto hb7).onto hal)
            have P7 := hid ((P6.out.onto hb7).onto hal)
            have A7 := hid ((A6.out.onto hb7).onto hal)
            have D7 := hid ((D6.out.onto hb7).onto hal)
            have G7 := hid ((G6.out.on hb7).on hal)
            have H7 := hid (vonto (vonto H6.out hb7) hal)
            clear hR3 hf7 hb7 hal B6 P6 A6 D6 G6 H6 k0 k1 k2 k3 k4 BR2
            have HTX : Hid (mkS (textP ps) = mkS (textP pA) ++ mkS (textP pD)) := hid (by rw [HPS.out]; exact text_cut _ _)
            have CT : Hid (∀ X, Below (w7.alloc (.cells #[.int .i64 R3.kd, .int .i64 R3.nm, .string R3.st, .slice zo1 zn1 zc1, .slice zo2 zn2 zc2] 31)).heap.size (w7.alloc (.cells #[.int .i64 R3.kd, .int .i64 R3.nm, .string R3.st, .slice zo1 zn1 zc1, .slice zo2 zn2 zc2] 31)) X → Calls Tryz.prog 18 #[.slice none 0 cp] X fun e w' => e = .returned (.string (mkS (textP pA) ++ mkS (textP pD))) ∧ Below X.heap.size X w') := fun X hX => by
              rw [← HTX.out]
              exact ptext_any _ _ _ (P7.out.onto hX) (G7.out.on hX) (by omega) HSM.out
            have CA := hid (fun X hX => ptext_any _ _ X (A7.out.onto hX) (G7.out.on hX) (by omega) SA.out)
            have CD := hid (fun X hX => ptext_any _ _ X (D7.out.onto hX) (G7.out.on hX) (by omega) SD.out)
            have hzA := text_size LA SA.out
            have hzD := text_size LD SD.out
            generalize mkS (textP pA) = sA at CT CA hzA
            generalize mkS (textP pD) = sD at CT CD hzD
            cases hok : getP T pA with
            | none =>
              have hno : getP T ps = none := by rw [HPS.out]; exact getP_none hok
              rw [hno]
              simp only [Option.isSome_none]
              go_wp2_with fail
              generalize (w7.alloc (.cells #[.int .i64 R3.kd, .int .i64 R3.nm, .string R3.st, .slice zo1 zn1 zc1, .slice zo2 zn2 zc2] 31)) = W7 at BR2' BR3 P7 A7 D7 G7 H7 CT CA CD ⊢
              generalize w7.heap.size = b7 at BR3 ⊢
              go_at_call 18
              refine (CT.out _ (Below.refl _ _)).mono ?_
              rintro e w8 ⟨rfl, hb8⟩
              go_wp2_with fail
              go_at_call 18
              refine (CA.out _ hb8).mono ?_
              rintro e w9 ⟨rfl, hb9⟩
              go_wp2_with fail
              go_at_call 18
              refine (CD.out _ (vonto hb8 hb9)).mono ?_
              rintro e w10 ⟨rfl, hb10⟩
              go_wp2_with fail
              go_ret
              exact ⟨rfl, vonto H7.out (vonto (vonto hb8 hb9) hb10)⟩
            | some t =>
              have ht : R = t := by rw [HR.out, hok]; rfl
              subst ht
              have hps : getP T ps = getP R pD := by rw [HPS.out, getP_app, hok, Option.bind_some]
              have h32 : R3 = R2 := by rw [HR3.out, HR2.out, hps]
              subst h32
              rw [hps]
              generalize (getP R pD).isSome = bb
              simp only [Option.isSome_some]
              obtain ⟨k0, k1, k2, k3, k4⟩ := BR2'.out.cells
              obtain ⟨j0, j1, j2, j3, j4⟩ := BR3.out.cells
              have CS := hid (same_any _ R3 R3 _ _ _ _ false _ (Nat.le_refl _) BR2'.out.2 BR3.out.2)
              rw [like_self R3] at CS
              simp only [vv] at CS
              go_wp2_with fail
              generalize (w7.alloc (.cells #[.int .i64 R3.kd, .int .i64 R3.nm, .string R3.st, .slice zo1 zn1 zc1, .slice zo2 zn2 zc2] 31)) = W7 at BR2' BR3 P7 A7 D7 G7 H7 CT CA CD CS k0 k1 k2 k3 k4 j0 j1 j2 j3 j4 ⊢
              generalize w7.heap.size = b7 at BR3 j0 j1 j2 j3 j4 ⊢
              go_at_call 28
              refine CS.out.mono ?_
              rintro e w8 ⟨rfl, hb8⟩
              clear k0 k1 k2 k3 k4 j0 j1 j2 j3 j4
              go_wp2_with fail
              go_at_call 18
              refine (CT.out _ hb8).mono ?_
              rintro e w9 ⟨rfl, hb9⟩
              go_wp2_with fail
              go_at_call 18
              refine (CA.out _ (vonto hb8 hb9)).mono ?_
              rintro e w10 ⟨rfl, hb10⟩
              go_wp2_with fail
              go_at_call 18
              refine (CD.out _ (vonto (vonto hb8 hb9) hb10)).mono ?_
              rintro e w11 ⟨rfl, hb11⟩
              go_wp2_with fail
              go_ret
              exact ⟨rfl, vonto H7.out (vonto (vonto (vonto hb8 hb9) hb10) hb11)⟩
          | some b =>
            have P4 := hid (P3.out.onto hdr)
            have A4 := hid (inp_take P4.out hm)
            have D4 := hid (inp_drop P4.out hm)
            have B4 := hid (B3.out.onto hdr)
            have G4 := hid (G3.out.on hdr)
            have H4 := hid (vonto H3.out hdr)
            go_region
            generalize (if cp = m then some b else some (b.add (m * 3))) = ob at D4 ⊢
            clear hp1 hp2 hp3 hdr P3 G3 B3 H3
            generalize w3.drew = W at P4 A4 D4 B4 G4 H4 ⊢
            have HPS : Hid (ps = ps.take m ++ ps.drop m) := hid (List.take_append_drop m ps).symm
            have LA : (ps.take m).length ≤ 50 := by rw [List.length_take]; omega
            have LD : (ps.drop m).length ≤ 50 := by rw [List.length_drop]; omega
            have SA := hid (fun s (hs : s ∈ ps.take m) => HSM.out s (List.mem_of_mem_take hs))
            have SD := hid (fun s (hs : s ∈ ps.drop m) => HSM.out s (List.mem_of_mem_drop hs))
            generalize ps.take m = pA at A4 HPS LA SA
            generalize ps.drop m = pD at D4 HPS LD SD
            as_aux_lemma =>
            obtain ⟨k0, k1, k2, k3, k4⟩ := B4.out.cells
            go_wp2_with fail
            go_at_call 12
            refine (pget_any T _ _ _ _ _ B4.out.2 hsz A4.out).mono ?_
            rintro e w5 ⟨R, X, Y, rfl, hR, hf5, hb5⟩
            have HR := hid hR
            have hszR : szT R ≤ 1000000 := by rw [hR]; exact sz_getD _ hsz
            obtain ⟨xo1, xn1, xc1, xo2, xn2, xc2, rfl, rfl⟩ := hv_slices hf5.hv
            simp only [vv]
            have hal := valloc_bel (Below.refl w5.heap.size w5) (.cells #[.int .i64 R.kd, .int .i64 R.nm, .string R.st, .slice xo1 xn1 xc1, .slice xo2 xn2 xc2] 31)
            have BR := hid (bx_new hf5.hv 31)
            have B5 := hid ((B4.out.onto hb5).onto hal)
            have P5 := hid ((P4.out.onto hb5).onto hal)
            have A5 := hid ((A4.out.onto hb5).onto hal)
            have D5 := hid ((D4.out.onto hb5).onto hal)
            have G5 := hid ((G4.out.on hb5).on hal)
            have H5 := hid (vonto (vonto H4.out hb5) hal)
            clear hR hf5 hb5 hal B4 P4 A4 D4 G4 H4 k0 k1 k2 k3 k4
            obtain ⟨k0, k1, k2, k3, k4⟩ := BR.out.cells
            go_wp2_with fail
            generalize (w5.alloc (.cells #[.int .i64 R.kd, .int .i64 R.nm, .string R.st, .slice xo1 xn1 xc1, .slice xo2 xn2 xc2] 31)) = W5 at k0 k1 k2 k3 k4 BR B5 P5 A5 D5 G5 H5 ⊢
            generalize w5.heap.size = b5 at BR k0 k1 k2 k3 k4 ⊢
            go_at_call 12
            refine (pget_any R _ _ _ _ _ BR.out.2 hszR D5.out).mono ?_
            rintro e w6 ⟨R2, X, Y, rfl, hR2, hf6, hb6⟩
            have HR2 := hid hR2
            obtain ⟨yo1, yn1, yc1, yo2, yn2, yc2, rfl, rfl⟩ := hv_slices hf6.hv
            simp only [vv]
            have hal := valloc_bel (Below.refl w6.heap.size w6) (.cells #[.int .i64 R2.kd, .int .i64 R2.nm, .string R2.st, .slice yo1 yn1 yc1, .slice yo2 yn2 yc2] 31)
            have BR2 := hid (bx_new hf6.hv 31)
            have B6 := hid ((B5.out.onto hb6).onto hal)
            have P6 := hid ((P5.out.onto hb6).onto hal)
            have A6 := hid ((A5.out.onto hb6).onto hal)
            have D6 := hid ((D5.out.onto hb6).onto hal)
            have G6 := hid ((G5.out.on hb6).on hal)
            have H6 := hid (vonto (vonto H5.out hb6) hal)
            clear hR2 hf6 hb6 hal B5 P5 A5 D5 G5 H5 k0 k1 k2 k3 k4 BR
            obtain ⟨k0, k1, k2, k3, k4⟩ := B6.out.cells
            go_wp2_with fail
            generalize (w6.alloc (.cells #[.int .i64 R2.kd, .int .i64 R2.nm, .string R2.st, .slice yo1 yn1 yc1, .slice yo2 yn2 yc2] 31)) = W6 at k0 k1 k2 k3 k4 BR2 B6 P6 A6 D6 G6 H6 ⊢
            generalize w6.heap.size = b6 at BR2 ⊢
            go_at_call 12
            refine (pget_any T _ _ _ _ _ B6.out.2 hsz P6.out).mono ?_
            rintro e w7 ⟨R3, X, Y, rfl, hR3, hf7, hb7⟩
            have HR3 := hid hR3
            obtain ⟨zo1, zn1, zc1, zo2, zn2, zc2, rfl, rfl⟩ := hv_slices hf7.hv
            simp only [vv]
            have hal := valloc_bel (Below.refl w7.heap.size w7) (.cells #[.int .i64 R3.kd, .int .i64 R3.nm, .string R3.st, .slice zo1 zn1 zc1, .slice zo2 zn2 zc2] 31)
            have BR3 := hid (bx_new hf7.hv 31)
            have BR2' := hid ((BR2.out.onto hb7).onto hal)
            have P7 := hid ((P6.out.onto hb7).onto hal)
            have A7 := hid ((A6.out.onto hb7).onto hal)
            have D7 := hid ((D6.out.onto hb7).onto hal)
            have G7 := hid ((G6.out.on hb7).on hal)
            have H7 := hid (vonto (vonto H6.out hb7) hal)
            clear hR3 hf7 hb7 hal B6 P6 A6 D6 G6 H6 k0 k1 k2 k3 k4 BR2
            have HTX : Hid (mkS (textP ps) = mkS (textP pA) ++ mkS (textP pD)) := hid (by rw [HPS.out]; exact text_cut _ _)
            have CT : Hid (∀ X, Below (w7.alloc (.cells #[.int .i64 R3.kd, .int .i64 R3.nm, .string R3.st, .slice zo1 zn1 zc1, .slice zo2 zn2 zc2] 31)).heap.size (w7.alloc (.cells #[.int .i64 R3.kd, .int .i64 R3.nm, .string R3.st, .slice zo1 zn1 zc1, .slice zo2 zn2 zc2] 31)) X → Calls Tryz.prog 18 #[.slice (some b) ps.length cp] X fun e w' => e = .returned (.string (mkS (textP pA) ++ mkS (textP pD))) ∧ Below X.heap.size X w') := fun X hX => by
              rw [← HTX.out]
              exact ptext_any _ _ _ (P7.out.onto hX) (G7.out.on hX) (by omega) HSM.out
            have CA := hid (fun X hX => ptext_any _ _ X (A7.out.onto hX) (G7.out.on hX) (by omega) SA.out)
            have CD := hid (fun X hX => ptext_any _ _ X (D7.out.onto hX) (G7.out.on hX) (by omega) SD.out)
            have hzA := text_size LA SA.out
            have hzD := text_size LD SD.out
            generalize mkS (textP pA) = sA at CT CA hzA
            generalize mkS (textP pD) = sD at CT CD hzD
            cases hok : getP T pA with
            | none =>
              have hno : getP T ps = none := by rw [HPS.out]; exact getP_none hok
              rw [hno]
              simp only [Option.isSome_none]
              go_wp2_with fail
              generalize (w7.alloc (.cells #[.int .i64 R3.kd, .int .i64 R3.nm, .string R3.st, .slice zo1 zn1 zc1, .slice zo2 zn2 zc2] 31)) = W7 at BR2' BR3 P7 A7 D7 G7 H7 CT CA CD ⊢
              generalize w7.heap.size = b7 at BR3 ⊢
              go_at_call 18
              refine (CT.out _ (Below.refl _ _)).mono ?_
              rintro e w8 ⟨rfl, hb8⟩
              go_wp2_with fail
              go_at_call 18
              refine (CA.out _ hb8).mono ?_
              rintro e w9 ⟨rfl, hb9⟩
              go_wp2_with fail
              go_at_call 18
              refine (CD.out _ (vonto hb8 hb9)).mono ?_
              rintro e w10 ⟨rfl, hb10⟩
              go_wp2_with fail
              go_ret
              exact ⟨rfl, vonto H7.out (vonto (vonto hb8 hb9) hb10)⟩
            | some t =>
              have ht : R = t := by rw [HR.out, hok]; rfl
              subst ht
              have hps : getP T ps = getP R pD := by rw [HPS.out, getP_app, hok, Option.bind_some]
              have h32 : R3 = R2 := by rw [HR3.out, HR2.out, hps]
              subst h32
              rw [hps]
              generalize (getP R pD).isSome = bb
              simp only [Option.isSome_some]
              obtain ⟨k0, k1, k2, k3, k4⟩ := BR2'.out.cells
              obtain ⟨j0, j1, j2, j3, j4⟩ := BR3.out.cells
              have CS := hid (same_any _ R3 R3 _ _ _ _ false _ (Nat.le_refl _) BR2'.out.2 BR3.out.2)
              rw [like_self R3] at CS
              simp only [vv] at CS
              go_wp2_with fail
              generalize (w7.alloc (.cells #[.int .i64 R3.kd, .int .i64 R3.nm, .string R3.st, .slice zo1 zn1 zc1, .slice zo2 zn2 zc2] 31)) = W7 at BR2' BR3 P7 A7 D7 G7 H7 CT CA CD CS k0 k1 k2 k3 k4 j0 j1 j2 j3 j4 ⊢
              generalize w7.heap.size = b7 at BR3 j0 j1 j2 j3 j4 ⊢
              go_at_call 28
              refine CS.out.mono ?_
              rintro e w8 ⟨rfl, hb8⟩
              clear k0 k1 k2 k3 k4 j0 j1 j2 j3 j4
              go_wp2_with fail
              go_at_call 18
              refine (CT.out _ hb8).mono ?_
              rintro e w9 ⟨rfl, hb9⟩
              go_wp2_with fail
              go_at_call 18
              refine (CA.out _ (vonto hb8 hb9)).mono ?_
              rintro e w10 ⟨rfl, hb10⟩
              go_wp2_with fail
              go_at_call 18
              refine (CD.out _ (vonto (vonto hb8 hb9) hb10)).mono ?_
              rintro e w11 ⟨rfl, hb11⟩
              go_wp2_with fail
              go_ret
              exact ⟨rfl, vonto H7.out (vonto (vonto (vonto hb8 hb9) hb10) hb11)⟩
end Go.Proofs.YtjffhjdjoankcaaGreatDoor
