
import Derived.Test.YtkhjahpkbjafaaaGreatDoorUJrTwo
/- The program's reader: a pair of a map, walked. -/
/- The program's reader: a map; all of it. -/
/- The program's read, Parse and Valid. -/
namespace Go.Proofs.YtkhjahpkbjafaaaGreatDoor
open Go.RowKit

set_option maxRecDepth 100000 in
set_option maxHeartbeats 16000000 in
theorem jpairs1 (N : Nat) (hV : JvOk N) (w0 : World) (b : Nat) (t : ByteArray) (K d : Nat) (hd : d ≤ 32) (hbw : b < w0.heap.size) (hKw : K < w0.heap.size) (s : List (ByteArray × VT)) (n : Nat) (ws : List Wd) (v : Value) (W : World) (f : Nat) (hP : Pv w0 b t K (AccP w0 b d) s n ws v W) (hN : ws.length ≤ N) (hf : 2 * ws.length + 1 ≤ f) :
    Calls Tryz.prog 90 #[.pointer (some ⟨w0.heap.size, 0, none⟩), .pointer (some ⟨w0.heap.size + 4, 0, none⟩), .pointer (some ⟨w0.heap.size + 6, 0, none⟩), .pointer (some ⟨w0.heap.size + 1, 0, none⟩)] W (Ps w0 b t K (AccP w0 b d) (stP d f s n ws)) := by
  obtain ⟨x, r, rfl⟩ := hP.aj.ends.ne
  obtain ⟨hszs, hst, hte, E, u, hE, hmj⟩ := hP.acc
  obtain ⟨oN, cN, rfl⟩ := own_shape hmj.own
  have HPV := hid hP
  have hnod := hP.aj.nod
  have hlen : E.length ≤ 4096 := by
    have h1 := len_szL (s.map (·.2))
    have h2 := hE.length_eq
    unfold prs at h2
    rw [List.length_map] at h1 h2
    omega
  have hwl := hP.aj.len
  simp only [List.length_cons] at hN hf hwl
  have HMJ := hid hmj
  have cr := hmj.cr
  have cs := hmj.cs
  have hbig := hmj.big
  obtain ⟨R0, hR0⟩ : ∃ R0, R0 = stP d f s n (x :: r) := ⟨_, rfl⟩
  rw [← hR0]
  unfold stP at hR0
  dsimp only at hR0
  have HST := hid hR0
  have htx := hP.aj.txt x (List.mem_cons_self ..)
  have hfs := find_seen (l := x.tx) hE
  have HSZS := hid hszs
  have HSTR := hid hst
  have HTE := hid hte
  have HE := hid hE
  clear hP hR0 hmj hszs hst hte hE
  by_cases hk : x.kd = 2
  rotate_left
  · rw [if_pos hk] at HST
    have CK := hid (jkey_kind b (w0.heap.size + 3) t v n x r W HPV.out.aj.jr HPV.out.aj.wm HPV.out.aj.tsz hk)
    clear hk hfs
    go_enter Tryz.func90, Tryz.ntmps90
    go_wp2_with fail
    go_at_call 91
    refine CK.out.mono ?_
    rintro e w1 ⟨hfa, hb1⟩
    have HPP : Hid (Ps w0 b t K (AccP w0 b d) R0 e w1) := hid (by rw [HST.out]; exact ⟨hfa, HPV.out.own.trans (Own.of hb1)⟩)
    unfold Faulted at hfa
    subst hfa
    generalize faultV t (x.at_ : Int) ((4 : Nat) : Int) = fv at HPP ⊢
    clear CK hb1
    go_wp2_with fail
    first
    | exact ⟨rfl, HPP.out⟩
    | exact HPP.out
  rw [if_neg (Classical.not_not.2 hk)] at HST
  rw [hfs] at HST
  cases hin : (E.map (·.1)).any (fun k => decide (k.data.toList = x.tx)) with
  | true =>
    rw [if_pos hin] at HST
    have CK := hid (jkey_twice b (w0.heap.size + 3) t v n x r (E.map (·.1)) W HPV.out.aj.jr HPV.out.aj.wm HPV.out.aj.tsz hk htx HMJ.out.set hin)
    clear hk hfs hin
    go_enter Tryz.func90, Tryz.ntmps90
    go_wp2_with fail
    go_at_call 91
    refine CK.out.mono ?_
    rintro e w1 ⟨hfa, hb1⟩
    have HPP : Hid (Ps w0 b t K (AccP w0 b d) R0 e w1) := hid (by rw [HST.out]; exact ⟨hfa, HPV.out.own.trans (Own.of hb1)⟩)
    unfold Faulted at hfa
    subst hfa
    generalize faultV t (x.at_ : Int) ((5 : Nat) : Int) = fv at HPP ⊢
    clear CK hb1
    go_wp2_with fail
    first
    | exact ⟨rfl, HPP.out⟩
    | exact HPP.out
  | false =>
    rw [if_neg (by rw [hin]; decide)] at HST
    have HKT := hid (fine_te (HPV.out.aj.fine x (List.mem_cons_self ..)) hk)
    have HIN := hid hin
    have CK := hid (jkey_new b (w0.heap.size + 3) K t v n x r (E.map (·.1)) W HPV.out.aj.jr HPV.out.aj.wm hk htx HMJ.out.set (by rw [List.length_map]; omega) (by omega) HPV.out.blk (by omega) hin)
    have HER := hid (HPV.out.aj.ends.tail (x := x) (r := r) (by omega))
    clear hk hfs hin
    go_enter Tryz.func90, Tryz.ntmps90
    go_wp2_with fail
    go_at_call 91
    refine CK.out.mono ?_
    rintro e w1 ⟨rfl, v1, j1, j2, j3, j4, j5⟩
    have MJ1 := hid (HMJ.out.keys j5 j4 hbw)
    have OW1 := hid (Own2.own HPV.out.own j5 (by omega))
    have GB1 : Hid (Gb b w1) := hid (by
      obtain ⟨uu, g1, g2, g3⟩ := HPV.out.aj.gl
      exact ⟨uu, g1, g2, ⟨j5.os.trans g3.os, j5.tape.trans g3.tape, j5.output.trans g3.output, by have := g3.size; have := j5.size; omega, fun k hk => (j5.block k (by have := g3.size; omega) (by omega) (by omega)).trans (g3.block k hk)⟩⟩)
    have J1 := hid j1
    have WM1 := hid j2
    have BK1 := hid (j3.trans HPV.out.blk)
    have cr1 := MJ1.out.cr
    clear j1 j2 j3 j4 j5 CK cr cs HMJ
    obtain ⟨y, r2, rfl⟩ := HER.out.ne
    cases h58 : isM 58 (y :: r2) with
    | false =>
      rw [if_pos (by rw [h58]; decide)] at HST
      have CW := hid (jwant_no b t v1 n y r2 58 w1 J1.out WM1.out HPV.out.aj.tsz h58)
      clear h58
      go_wp2_with fail
      go_at_call 92
      refine CW.out.mono ?_
      rintro e w2 ⟨hfa, hb2⟩
      have HPP : Hid (Ps w0 b t K (AccP w0 b d) R0 e w2) := hid (by rw [HST.out]; exact ⟨hfa, OW1.out.trans (Own.of hb2)⟩)
      unfold Faulted at hfa
      subst hfa
      generalize faultV t (y.at_ : Int) ((4 : Nat) : Int) = fv at HPP ⊢
      clear CW hb2
      go_wp2_with fail
      first
      | exact ⟨rfl, HPP.out⟩
      | exact HPP.out
    | true =>
      rw [if_neg (by rw [h58]; decide)] at HST
      simp only [List.tail_cons] at HST
      have CW := hid (jwant_yes b t v1 n y r2 58 w1 J1.out WM1.out h58)
      have HER2 := hid (isM_tail HER.out h58)
      simp only [List.tail_cons] at HER2
      clear h58
      go_wp2_with fail
      go_at_call 92
      refine CW.out.mono ?_
      rintro e w2 ⟨rfl, v2, j1, j2, j3, j4⟩
      have HBK := hid (j4.trans BK1.out)
      simp only [List.length_cons] at hN hf hwl
      have HFI2 : Hid (∀ z ∈ r2, Fine z) := hid (fun z hz => HPV.out.aj.fine z (List.mem_cons_of_mem _ (List.mem_cons_of_mem _ hz)))
      have HTX2 : Hid (∀ z ∈ r2, z.tx.length ≤ 65536) := hid (fun z hz => HPV.out.aj.txt z (List.mem_cons_of_mem _ (List.mem_cons_of_mem _ hz)))
      have HKB0 := hid (show Kb6 w0 w2 b t v2 r2 n d (E.map (·.1) ++ [mkS x.tx]) E (.slice oN E.length cN) from ⟨⟨j1, j2, HER2.out, HFI2.out, by omega, HTX2.out, hnod, HPV.out.aj.tsz, GB1.out.own j3⟩, MJ1.out.far j3 hbw, OW1.out.trans j3⟩)
      have HKB := hid (HKB0.out.on hbw (Below.refl w2.heap.size w2).drew)
      have hWs : w0.heap.size + 7 ≤ w2.heap.size := HKB0.out.lj.big
      have HCV : Hid (∀ X, Aj X b t v2 r2 n → Calls Tryz.prog 41 #[.pointer (some ⟨b, 0, none⟩), .int .i64 ((d : Int) + 1)] X (Rj b t v2 (jrV f (d + 1) n r2) X)) := hid (fun X hX => by
        have := hV b t v2 r2 n (d + 1) X f hX (by omega) (by omega) (by omega)
        simpa using this)
      have HEND0 : Hid (∀ (T : VT) (x' y' : Value) (m : Nat) (q : List Wd), jrV f (d + 1) n r2 = .ok T m q → ∀ (X w9 : World) (l0 g cap : Nat), Ka6 w0 X b t q m d K l0 (E.map (·.1) ++ [mkS x.tx]) E (.slice oN E.length cN) T x' y' → w9.ownsRow (w0.heap.size + 5) 52 6 (.slice (some ⟨g, 0, none⟩) (E.length + 1) cap) (E.length + 1) (E.flatMap pc ++ [.string ⟨#[]⟩, .int .i64 0, .int .i64 0, .string ⟨#[]⟩, .slice none 0 0, .slice none 0 0]) → X.grownBy w9 (Value.slice oN E.length cN).ownBlock → ((Value.slice oN E.length cN).ownBlock = some g ∨ g = X.heap.size) →
          ∀ wF, Mo6 w9 wF g (w0.heap.size + 6) (E.length * 6) (.slice (some ⟨g, 0, none⟩) (E.length + 1) cap) (.string (mkS x.tx)) (.int .i64 T.kd) (.int .i64 T.nm) (.string T.st) x' y' → ∃ v', Pv w0 b t K (AccP w0 b d) (insP (mkS x.tx) T false s) m q v' wF) := hid (fun T x' y' m q hv X w9 l0 g cap hka hown hgr hat wF hmo => by
        obtain ⟨he, hl, hnm, hm4⟩ := (jr_ends f).1 _ _ _ _ _ _ HER2.out hv
        have hsf := (jr_suf f).1 _ _ _ _ _ _ hv
        have hz := (jr_sz f).1 _ _ _ _ _ _ hv
        have hsz := HSZS.out
        exact ka6_end hka hbw hKw he (fun z hz => HFI2.out z (hsf.mem hz)) (by omega) (fun z hz => HTX2.out z (hsf.mem hz)) hm4 HPV.out.aj.tsz HE.out HSTR.out HTE.out HKT.out (by rw [mkS_size]; unfold maxLen; omega) (by rw [mkS_list]; exact HIN.out) (by omega) hown hgr hat hmo)
      obtain ⟨i0, hi, hz0, hz1, hz2⟩ := info_parts Tryz.info34
      have hii : (E.length : Int) < (E.length : Int) + 1 := by omega
      have hwr : IntKind.i64.wrap ((d : Int) + 1) = (d : Int) + 1 := by rw [IntKind.wrap_i64]; omega
      clear j1 j2 j3 j4 CW cr1 J1 WM1 BK1 OW1 GB1 MJ1 HKB0
      go_wp2_with fail
      refine wp_region_h (S := fun X => X.cell? ⟨w0.heap.size, 0, none⟩ = some (.pointer (some ⟨b, 0, none⟩)) ∧ X.cell? ⟨w0.heap.size + 1, 0, none⟩ = some (.int .i64 (d : Int))) 13 (by kernel_rfl) (by kernel_rfl) ?_
      refine take_h (i := 1) (v := ?_) rfl (by kernel_rfl) (by kernel_rfl) (by kernel_rfl) (fun _ _ _ h => h) (by rfl) ?_ ⟨HKB.out.lj.cr, HKB.out.lj.cd⟩ ?_
      rotate_left
      · (intro X hX; obtain ⟨y0, y1⟩ := hX; go_simp; try with_reducible rfl)
      simp only [Act.put, List.setIfInBounds_toArray, List.set_cons_zero, List.set_cons_succ]
      refine take_h (i := 2) (v := ?_) rfl (by kernel_rfl) (by kernel_rfl) (by kernel_rfl) (fun _ _ _ h => h) (by rfl) ?_ ⟨HKB.out.lj.cr, HKB.out.lj.cd⟩ ?_
      rotate_left
      · (intro X hX; obtain ⟨y0, y1⟩ := hX; go_simp; try with_reducible rfl)
      simp only [Act.put, List.setIfInBounds_toArray, List.set_cons_zero, List.set_cons_succ]
      refine take_h (i := 3) (v := ?_) rfl (by kernel_rfl) (by kernel_rfl) (by kernel_rfl) (fun _ _ _ h => h) (by rfl) ?_ ⟨HKB.out.lj.cr, HKB.out.lj.cd⟩ ?_
      rotate_left
      · (intro X hX; obtain ⟨y0, y1⟩ := hX; go_simp; try with_reducible rfl)
      simp only [Act.put, List.setIfInBounds_toArray, List.set_cons_zero, List.set_cons_succ]
      refine take_h (i := 4) (v := ?_) rfl (by kernel_rfl) (by kernel_rfl) (by kernel_rfl) (fun _ _ _ h => h) (by rfl) ?_ ⟨HKB.out.lj.cr, HKB.out.lj.cd⟩ ?_
      rotate_left
      · (intro X hX; obtain ⟨y0, y1⟩ := hX; go_simp; try with_reducible rfl)
      simp only [Act.put, List.setIfInBounds_toArray, List.set_cons_zero, List.set_cons_succ]
      refine step3_h (i := 0) (j := 5) (k := 8) rfl rfl rfl (by kernel_rfl) ?_ ?_ ?_
      · intro KK hKK
        have ci1 := HKB.out.lj.ci
        go_simp
        refine hKK.out _ _ ⟨HKB.out.lj.cr, HKB.out.lj.cd⟩ (fun _ => ?_)
        clear hKK KK ci1
        try simp only [Act.put, List.setIfInBounds_toArray, List.set_cons_zero, List.set_cons_succ]
        refine take_h (i := 7) (v := ?_) rfl (by kernel_rfl) (by kernel_rfl) (by kernel_rfl) (fun _ _ _ h => h) (by rfl) ?_ ⟨HKB.out.lj.cr, HKB.out.lj.cd⟩ ?_
        rotate_left
        · (intro X hX; obtain ⟨y0, y1⟩ := hX; go_simp; try with_reducible rfl)
        simp only [Act.put, List.setIfInBounds_toArray, List.set_cons_zero, List.set_cons_succ]
        refine step2_h (i := 5) (j := 8) rfl rfl (by kernel_rfl) ?_ ?_
        · intro KK hKK
          go_simp
          go_wp2_with fail
          go_at_call 41
          refine (HCV.out _ HKB.out.aj).mono ?_
          intro e wc2 hp
          cases hv : jrV f (d + 1) n r2 with
          | bad er a =>
            rw [hv] at hp
            have hfa := hp.1
            have HPP : Hid (Ps w0 b t K (AccP w0 b d) R0 e wc2) := hid (by rw [HST.out, hv]; exact ⟨hp.1, HKB.out.ow.trans hp.2⟩)
            unfold Faulted at hfa
            subst hfa
            generalize faultV t (a : Int) (er : Int) = fv at HPP ⊢
            clear hp hv
            go_wp2_with fail
            first | exact ⟨rfl, HPP.out⟩ | exact HPP.out | (simp only [bodyPost]; exact HPP.out)
          | ok T m q =>
            rw [hv] at hp HST
            simp only at HST
            obtain ⟨t1, t2, t3, t4, t5, t6, rfl, hka, hoc⟩ := kb6_read HKB.out hbw HBK.out hp
            have H3 := hid hka
            have HEND := hid (HEND0.out T (.slice t1 t2 t3) (.slice t4 t5 t6) m q hv)
            clear hp hka hoc
            simp only [vv]
            go_wp2_with fail
            refine hKK.out _ _ ⟨H3.out.lj.cr, H3.out.lj.cd⟩ (fun _ => ?_)
            clear hKK KK
            try simp only [Act.put, List.setIfInBounds_toArray, List.set_cons_zero, List.set_cons_succ]
            refine take_h (i := 6) (v := ?_) rfl (by kernel_rfl) (by kernel_rfl) (by kernel_rfl) (fun _ _ _ h => h) (by rfl) ?_ ⟨H3.out.lj.cr, H3.out.lj.cd⟩ ?_
            rotate_left
            · (intro X hX; obtain ⟨y0, y1⟩ := hX; go_simp; try with_reducible rfl)
            simp only [Act.put, List.setIfInBounds_toArray, List.set_cons_zero, List.set_cons_succ]
            refine step_h (i := 8) rfl (by kernel_rfl) ?_
            intro KK hKK
            go_simp
            change KK _ (wc2.alloc (.cells #[.string ⟨#[]⟩, .int .i64 0, .int .i64 0, .string ⟨#[]⟩, .slice none 0 0, .slice none 0 0] 52))
            have H4 := hid (H3.out.on hbw (valloc_bel (Below.refl _ _) (.cells #[.string ⟨#[]⟩, .int .i64 0, .int .i64 0, .string ⟨#[]⟩, .slice none 0 0, .slice none 0 0] 52)))
            have zc5 : Hid (∀ (j : Nat) (u : Value), ([.string ⟨#[]⟩, .int .i64 0, .int .i64 0, .string ⟨#[]⟩, .slice none 0 0, .slice none 0 0] : List Value)[j]? = some u → (wc2.alloc (.cells #[.string ⟨#[]⟩, .int .i64 0, .int .i64 0, .string ⟨#[]⟩, .slice none 0 0, .slice none 0 0] 52)).cell? (Addr.add ⟨wc2.heap.size, 0, none⟩ j) = some u) := hid (new_cells wc2 [.string ⟨#[]⟩, .int .i64 0, .int .i64 0, .string ⟨#[]⟩, .slice none 0 0, .slice none 0 0] 52)
            generalize (wc2.alloc (.cells #[.string ⟨#[]⟩, .int .i64 0, .int .i64 0, .string ⟨#[]⟩, .slice none 0 0, .slice none 0 0] 52)) = X6 at H4 zc5 ⊢
            refine hKK.out _ _ ⟨H4.out.lj.cr, H4.out.lj.cd⟩ (fun _ => ?_)
            clear hKK KK
            try simp only [Act.put, List.setIfInBounds_toArray, List.set_cons_zero, List.set_cons_succ]
            have hsx := H4.out.ow.size
            have hbg := H4.out.lj.big
            refine step_h (i := 9) rfl (by kernel_rfl) ?_
            intro KK hKK
            refine step_append_lies _ (by rfl) _ _ _ (by rfl) (w0.heap.size + 5) 52 i0 (.agg #[.string ⟨#[]⟩, .int .i64 0, .int .i64 0, .string ⟨#[]⟩, .slice none 0 0, .slice none 0 0]) 6 96 Tryz.underlying25 hi hz0 hz1 hz2 rfl (by decide) _ E.length _ (by rfl) H4.out.lj.own ⟨wc2.heap.size, 0, none⟩ 1 1 [.string ⟨#[]⟩, .int .i64 0, .int .i64 0, .string ⟨#[]⟩, .slice none 0 0, .slice none 0 0] (by rfl) rfl zc5.out (by intro u hu; simp at hu; rcases hu with rfl | rfl | rfl | rfl | rfl | rfl <;> rfl) (by decide) (by unfold maxLen; omega) (by omega) (by omega) X6.heap.size rfl ?_
            intro g9 cap9 w9 hown9 hgr9 hat9 hlt9
            obtain ⟨y0, y1, hne9, r0, r1, r2_, r3, r4, r5, rf, x0, xf⟩ := ka6_row H4.out hown9 hgr9 hat9
            have hS9 : w9.cell? ⟨w0.heap.size, 0, none⟩ = some (.pointer (some ⟨b, 0, none⟩)) ∧ w9.cell? ⟨w0.heap.size + 1, 0, none⟩ = some (.int .i64 (d : Int)) := ⟨y0, y1⟩
            refine hKK.out _ _ hS9 (fun _ => ?_)
            clear hKK KK
            try simp only [Act.put, List.setIfInBounds_toArray, List.set_cons_zero, List.set_cons_succ]
            refine take_h (i := 10) (v := ?_) rfl (by kernel_rfl) (by kernel_rfl) (by kernel_rfl) (fun _ _ _ h => h) (by rfl) ?_ hS9 ?_
            rotate_left
            · (intro X hX; obtain ⟨y0, y1⟩ := hX; go_simp; try with_reducible rfl)
            simp only [Act.put, List.setIfInBounds_toArray, List.set_cons_zero, List.set_cons_succ]
            have hnd := hid (HEND.out _ _ _ _ _ H4.out hown9 hgr9 hat9)
            refine step2_h (i := 11) (j := 12) rfl rfl (by kernel_rfl) ?_ ?_
            · intro KK hKK
              go_simp
              change KK _ (put6 w9 g9 (E.length * 6) (.string (mkS x.tx)) (.int .i64 T.kd) (.int .i64 T.nm) (.string T.st) (.slice t1 t2 t3) (.slice t4 t5 t6))
              have q0 := (World.cell?_of_block (w := w9) (a := ⟨w0.heap.size, 0, none⟩) (put6_heap w9 g9 (E.length * 6) (.string (mkS x.tx)) (.int .i64 T.kd) (.int .i64 T.nm) (.string T.st) (.slice t1 t2 t3) (.slice t4 t5 t6) w0.heap.size hne9.1)).trans y0
              have q1 := (World.cell?_of_block (w := w9) (a := ⟨w0.heap.size + 1, 0, none⟩) (put6_heap w9 g9 (E.length * 6) (.string (mkS x.tx)) (.int .i64 T.kd) (.int .i64 T.nm) (.string T.st) (.slice t1 t2 t3) (.slice t4 t5 t6) (w0.heap.size + 1) hne9.2.1)).trans y1
              have q2 := (World.cell?_of_block (w := w9) (a := ⟨w0.heap.size + 6, 0, none⟩) (put6_heap w9 g9 (E.length * 6) (.string (mkS x.tx)) (.int .i64 T.kd) (.int .i64 T.nm) (.string T.st) (.slice t1 t2 t3) (.slice t4 t5 t6) (w0.heap.size + 6) (fun e => hne9.2.2 e.symm))).trans x0
              have q3 := (World.frozen?_of_block (w := w9) (a := ⟨w0.heap.size + 6, 0, none⟩) (put6_heap w9 g9 (E.length * 6) (.string (mkS x.tx)) (.int .i64 T.kd) (.int .i64 T.nm) (.string T.st) (.slice t1 t2 t3) (.slice t4 t5 t6) (w0.heap.size + 6) (fun e => hne9.2.2 e.symm))).trans (xf 0)
              have HFI : Hid (Mo6 w9 ((put6 w9 g9 (E.length * 6) (.string (mkS x.tx)) (.int .i64 T.kd) (.int .i64 T.nm) (.string T.st) (.slice t1 t2 t3) (.slice t4 t5 t6)).setCell ⟨w0.heap.size + 6, 0, none⟩ (.slice (some ⟨g9, 0, none⟩) (E.length + 1) cap9)) g9 (w0.heap.size + 6) (E.length * 6) (.slice (some ⟨g9, 0, none⟩) (E.length + 1) cap9) (.string (mkS x.tx)) (.int .i64 T.kd) (.int .i64 T.nm) (.string T.st) (.slice t1 t2 t3) (.slice t4 t5 t6)) := hid (mo6_a hne9.2.2)
              have HS2 := hid (mo6_two hne9 ⟨y0, y1⟩ HFI.out)
              have HPE := hid (hnd.out _ HFI.out)
              generalize (put6 w9 g9 (E.length * 6) (.string (mkS x.tx)) (.int .i64 T.kd) (.int .i64 T.nm) (.string T.st) (.slice t1 t2 t3) (.slice t4 t5 t6)) = WA at q0 q1 q2 q3 HS2 HPE ⊢
              clear HFI r0 r1 r2_ r3 r4 r5 rf x0 xf y0 y1 hS9
              refine hKK.out _ _ ⟨q0, q1⟩ (fun hSA => ?_)
              clear hKK KK
              refine step_h (i := 12) rfl (by kernel_rfl) ?_
              intro KK hKK
              go_simp
              refine hKK.out _ _ HS2.out (fun _ => ?_)
              clear hKK KK
              refine wpAnyH_done (by kernel_rfl) ?_ _
              first | go_end0 | refine bodyPost_ret (results_none rfl _ _ _) rfl ?_
              rw [HST.out]; exact ⟨rfl, HPE.out⟩
            · intro KK hKK
              go_simp
              have q0 := (set_other w9 (w0.heap.size + 6) w0.heap.size 0 0 (.slice (some ⟨g9, 0, none⟩) (E.length + 1) cap9) (Or.inl (by omega))).trans y0
              have q1 := (set_other w9 (w0.heap.size + 6) (w0.heap.size + 1) 0 0 (.slice (some ⟨g9, 0, none⟩) (E.length + 1) cap9) (Or.inl (by omega))).trans y1
              have s0 := (set_other w9 (w0.heap.size + 6) g9 0 (E.length * 6) (.slice (some ⟨g9, 0, none⟩) (E.length + 1) cap9) (Or.inl (fun e => hne9.2.2 e.symm))).trans r0
              have s1 := (set_other w9 (w0.heap.size + 6) g9 0 (E.length * 6 + 1) (.slice (some ⟨g9, 0, none⟩) (E.length + 1) cap9) (Or.inl (fun e => hne9.2.2 e.symm))).trans r1
              have s2 := (set_other w9 (w0.heap.size + 6) g9 0 (E.length * 6 + 2) (.slice (some ⟨g9, 0, none⟩) (E.length + 1) cap9) (Or.inl (fun e => hne9.2.2 e.symm))).trans r2_
              have s3 := (set_other w9 (w0.heap.size + 6) g9 0 (E.length * 6 + 3) (.slice (some ⟨g9, 0, none⟩) (E.length + 1) cap9) (Or.inl (fun e => hne9.2.2 e.symm))).trans r3
              have s4 := (set_other w9 (w0.heap.size + 6) g9 0 (E.length * 6 + 4) (.slice (some ⟨g9, 0, none⟩) (E.length + 1) cap9) (Or.inl (fun e => hne9.2.2 e.symm))).trans r4
              have s5 := (set_other w9 (w0.heap.size + 6) g9 0 (E.length * 6 + 5) (.slice (some ⟨g9, 0, none⟩) (E.length + 1) cap9) (Or.inl (fun e => hne9.2.2 e.symm))).trans r5
              have sf : ∀ o, (w9.setCell ⟨w0.heap.size + 6, 0, none⟩ (.slice (some ⟨g9, 0, none⟩) (E.length + 1) cap9)).frozen? ⟨g9, o, none⟩ = false := fun o => (World.frozen?_of_block (w := w9) (a := ⟨g9, o, none⟩) (Below.heap_setCell _ _ _ _ hne9.2.2)).trans (rf o)
              have HFI : Hid (Mo6 w9 (put6 (w9.setCell ⟨w0.heap.size + 6, 0, none⟩ (.slice (some ⟨g9, 0, none⟩) (E.length + 1) cap9)) g9 (E.length * 6) (.string (mkS x.tx)) (.int .i64 T.kd) (.int .i64 T.nm) (.string T.st) (.slice t1 t2 t3) (.slice t4 t5 t6)) g9 (w0.heap.size + 6) (E.length * 6) (.slice (some ⟨g9, 0, none⟩) (E.length + 1) cap9) (.string (mkS x.tx)) (.int .i64 T.kd) (.int .i64 T.nm) (.string T.st) (.slice t1 t2 t3) (.slice t4 t5 t6)) := hid (mo6_b hne9.2.2)
              have HS2 := hid (mo6_two hne9 ⟨y0, y1⟩ HFI.out)
              have HPE := hid (hnd.out _ HFI.out)
              generalize (w9.setCell ⟨w0.heap.size + 6, 0, none⟩ (.slice (some ⟨g9, 0, none⟩) (E.length + 1) cap9)) = WA at q0 q1 s0 s1 s2 s3 s4 s5 sf HS2 HPE ⊢
              clear HFI r0 r1 r2_ r3 r4 r5 rf x0 xf y0 y1 hS9
              refine hKK.out _ _ ⟨q0, q1⟩ (fun hSA => ?_)
              clear hKK KK
              refine step_h (i := 11) rfl (by kernel_rfl) ?_
              intro KK hKK
              go_simp
              change KK _ (put6 WA g9 (E.length * 6) (.string (mkS x.tx)) (.int .i64 T.kd) (.int .i64 T.nm) (.string T.st) (.slice t1 t2 t3) (.slice t4 t5 t6))
              refine hKK.out _ _ HS2.out (fun _ => ?_)
              clear hKK KK
              refine wpAnyH_done (by kernel_rfl) ?_ _
              first | go_end0 | refine bodyPost_ret (results_none rfl _ _ _) rfl ?_
              rw [HST.out]; exact ⟨rfl, HPE.out⟩
        · intro KK hKK
          go_simp
          change KK _ (w2.drew.alloc (.cells #[.string ⟨#[]⟩, .int .i64 0, .int .i64 0, .string ⟨#[]⟩, .slice none 0 0, .slice none 0 0] 52))
          have H7 := hid (HKB.out.on hbw (valloc_bel (Below.refl _ _) (.cells #[.string ⟨#[]⟩, .int .i64 0, .int .i64 0, .string ⟨#[]⟩, .slice none 0 0, .slice none 0 0] 52)))
          have zc8 : Hid (∀ (j : Nat) (u : Value), ([.string ⟨#[]⟩, .int .i64 0, .int .i64 0, .string ⟨#[]⟩, .slice none 0 0, .slice none 0 0] : List Value)[j]? = some u → (w2.drew.alloc (.cells #[.string ⟨#[]⟩, .int .i64 0, .int .i64 0, .string ⟨#[]⟩, .slice none 0 0, .slice none 0 0] 52)).cell? (Addr.add ⟨w2.heap.size, 0, none⟩ j) = some u) := hid (new_cells w2.drew [.string ⟨#[]⟩, .int .i64 0, .int .i64 0, .string ⟨#[]⟩, .slice none 0 0, .slice none 0 0] 52)
          generalize (w2.drew.alloc (.cells #[.string ⟨#[]⟩, .int .i64 0, .int .i64 0, .string ⟨#[]⟩, .slice none 0 0, .slice none 0 0] 52)) = X9 at H7 zc8 ⊢
          refine hKK.out _ _ ⟨H7.out.lj.cr, H7.out.lj.cd⟩ (fun _ => ?_)
          clear hKK KK
          try simp only [Act.put, List.setIfInBounds_toArray, List.set_cons_zero, List.set_cons_succ]
          refine step_h (i := 5) rfl (by kernel_rfl) ?_
          intro KK hKK
          go_simp
          go_wp2_with fail
          go_at_call 41
          refine (HCV.out _ H7.out.aj).mono ?_
          intro e wc10 hp
          cases hv : jrV f (d + 1) n r2 with
          | bad er a =>
            rw [hv] at hp
            have hfa := hp.1
            have HPP : Hid (Ps w0 b t K (AccP w0 b d) R0 e wc10) := hid (by rw [HST.out, hv]; exact ⟨hp.1, H7.out.ow.trans hp.2⟩)
            unfold Faulted at hfa
            subst hfa
            generalize faultV t (a : Int) (er : Int) = fv at HPP ⊢
            clear hp hv
            go_wp2_with fail
            first | exact ⟨rfl, HPP.out⟩ | exact HPP.out | (simp only [bodyPost]; exact HPP.out)
          | ok T m q =>
            rw [hv] at hp HST
            simp only at HST
            obtain ⟨t1, t2, t3, t4, t5, t6, rfl, hka, hoc⟩ := kb6_read H7.out hbw HBK.out hp
            have H11 := hid hka
            have zc12 := hid (fun j u hj => hoc.cell (zc8.out j u hj) (by rw [addr_block]; show ¬ w2.heap.size = b; omega))
            have HEND := hid (HEND0.out T (.slice t1 t2 t3) (.slice t4 t5 t6) m q hv)
            clear hp hka hoc
            simp only [vv]
            go_wp2_with fail
            refine hKK.out _ _ ⟨H11.out.lj.cr, H11.out.lj.cd⟩ (fun _ => ?_)
            clear hKK KK
            try simp only [Act.put, List.setIfInBounds_toArray, List.set_cons_zero, List.set_cons_succ]
            refine take_h (i := 6) (v := ?_) rfl (by kernel_rfl) (by kernel_rfl) (by kernel_rfl) (fun _ _ _ h => h) (by rfl) ?_ ⟨H11.out.lj.cr, H11.out.lj.cd⟩ ?_
            rotate_left
            · (intro X hX; obtain ⟨y0, y1⟩ := hX; go_simp; try with_reducible rfl)
            simp only [Act.put, List.setIfInBounds_toArray, List.set_cons_zero, List.set_cons_succ]
            have hsx := H11.out.ow.size
            have hbg := H11.out.lj.big
            refine step_h (i := 9) rfl (by kernel_rfl) ?_
            intro KK hKK
            refine step_append_lies _ (by rfl) _ _ _ (by rfl) (w0.heap.size + 5) 52 i0 (.agg #[.string ⟨#[]⟩, .int .i64 0, .int .i64 0, .string ⟨#[]⟩, .slice none 0 0, .slice none 0 0]) 6 96 Tryz.underlying25 hi hz0 hz1 hz2 rfl (by decide) _ E.length _ (by rfl) H11.out.lj.own ⟨w2.heap.size, 0, none⟩ 1 1 [.string ⟨#[]⟩, .int .i64 0, .int .i64 0, .string ⟨#[]⟩, .slice none 0 0, .slice none 0 0] (by rfl) rfl zc12.out (by intro u hu; simp at hu; rcases hu with rfl | rfl | rfl | rfl | rfl | rfl <;> rfl) (by decide) (by unfold maxLen; omega) (by omega) (by omega) wc10.heap.size rfl ?_
            intro g9 cap9 w9 hown9 hgr9 hat9 hlt9
            obtain ⟨y0, y1, hne9, r0, r1, r2_, r3, r4, r5, rf, x0, xf⟩ := ka6_row H11.out hown9 hgr9 hat9
            have hS9 : w9.cell? ⟨w0.heap.size, 0, none⟩ = some (.pointer (some ⟨b, 0, none⟩)) ∧ w9.cell? ⟨w0.heap.size + 1, 0, none⟩ = some (.int .i64 (d : Int)) := ⟨y0, y1⟩
            refine hKK.out _ _ hS9 (fun _ => ?_)
            clear hKK KK
            try simp only [Act.put, List.setIfInBounds_toArray, List.set_cons_zero, List.set_cons_succ]
            refine take_h (i := 10) (v := ?_) rfl (by kernel_rfl) (by kernel_rfl) (by kernel_rfl) (fun _ _ _ h => h) (by rfl) ?_ hS9 ?_
            rotate_left
            · (intro X hX; obtain ⟨y0, y1⟩ := hX; go_simp; try with_reducible rfl)
            simp only [Act.put, List.setIfInBounds_toArray, List.set_cons_zero, List.set_cons_succ]
            have hnd := hid (HEND.out _ _ _ _ _ H11.out hown9 hgr9 hat9)
            refine step2_h (i := 11) (j := 12) rfl rfl (by kernel_rfl) ?_ ?_
            · intro KK hKK
              go_simp
              change KK _ (put6 w9 g9 (E.length * 6) (.string (mkS x.tx)) (.int .i64 T.kd) (.int .i64 T.nm) (.string T.st) (.slice t1 t2 t3) (.slice t4 t5 t6))
              have q0 := (World.cell?_of_block (w := w9) (a := ⟨w0.heap.size, 0, none⟩) (put6_heap w9 g9 (E.length * 6) (.string (mkS x.tx)) (.int .i64 T.kd) (.int .i64 T.nm) (.string T.st) (.slice t1 t2 t3) (.slice t4 t5 t6) w0.heap.size hne9.1)).trans y0
              have q1 := (World.cell?_of_block (w := w9) (a := ⟨w0.heap.size + 1, 0, none⟩) (put6_heap w9 g9 (E.length * 6) (.string (mkS x.tx)) (.int .i64 T.kd) (.int .i64 T.nm) (.string T.st) (.slice t1 t2 t3) (.slice t4 t5 t6) (w0.heap.size + 1) hne9.2.1)).trans y1
              have q2 := (World.cell?_of_block (w := w9) (a := ⟨w0.heap.size + 6, 0, none⟩) (put6_heap w9 g9 (E.length * 6) (.string (mkS x.tx)) (.int .i64 T.kd) (.int .i64 T.nm) (.string T.st) (.slice t1 t2 t3) (.slice t4 t5 t6) (w0.heap.size + 6) (fun e => hne9.2.2 e.symm))).trans x0
              have q3 := (World.frozen?_of_block (w := w9) (a := ⟨w0.heap.size + 6, 0, none⟩) (put6_heap w9 g9 (E.length * 6) (.string (mkS x.tx)) (.int .i64 T.kd) (.int .i64 T.nm) (.string T.st) (.slice t1 t2 t3) (.slice t4 t5 t6) (w0.heap.size + 6) (fun e => hne9.2.2 e.symm))).trans (xf 0)
              have HFI : Hid (Mo6 w9 ((put6 w9 g9 (E.length * 6) (.string (mkS x.tx)) (.int .i64 T.kd) (.int .i64 T.nm) (.string T.st) (.slice t1 t2 t3) (.slice t4 t5 t6)).setCell ⟨w0.heap.size + 6, 0, none⟩ (.slice (some ⟨g9, 0, none⟩) (E.length + 1) cap9)) g9 (w0.heap.size + 6) (E.length * 6) (.slice (some ⟨g9, 0, none⟩) (E.length + 1) cap9) (.string (mkS x.tx)) (.int .i64 T.kd) (.int .i64 T.nm) (.string T.st) (.slice t1 t2 t3) (.slice t4 t5 t6)) := hid (mo6_a hne9.2.2)
              have HS2 := hid (mo6_two hne9 ⟨y0, y1⟩ HFI.out)
              have HPE := hid (hnd.out _ HFI.out)
              generalize (put6 w9 g9 (E.length * 6) (.string (mkS x.tx)) (.int .i64 T.kd) (.int .i64 T.nm) (.string T.st) (.slice t1 t2 t3) (.slice t4 t5 t6)) = WA at q0 q1 q2 q3 HS2 HPE ⊢
              clear HFI r0 r1 r2_ r3 r4 r5 rf x0 xf y0 y1 hS9
              refine hKK.out _ _ ⟨q0, q1⟩ (fun hSA => ?_)
              clear hKK KK
              refine step_h (i := 12) rfl (by kernel_rfl) ?_
              intro KK hKK
              go_simp
              refine hKK.out _ _ HS2.out (fun _ => ?_)
              clear hKK KK
              refine wpAnyH_done (by kernel_rfl) ?_ _
              first | go_end0 | refine bodyPost_ret (results_none rfl _ _ _) rfl ?_
              rw [HST.out]; exact ⟨rfl, HPE.out⟩
            · intro KK hKK
              go_simp
              have q0 := (set_other w9 (w0.heap.size + 6) w0.heap.size 0 0 (.slice (some ⟨g9, 0, none⟩) (E.length + 1) cap9) (Or.inl (by omega))).trans y0
              have q1 := (set_other w9 (w0.heap.size + 6) (w0.heap.size + 1) 0 0 (.slice (some ⟨g9, 0, none⟩) (E.length + 1) cap9) (Or.inl (by omega))).trans y1
              have s0 := (set_other w9 (w0.heap.size + 6) g9 0 (E.length * 6) (.slice (some ⟨g9, 0, none⟩) (E.length + 1) cap9) (Or.inl (fun e => hne9.2.2 e.symm))).trans r0
              have s1 := (set_other w9 (w0.heap.size + 6) g9 0 (E.length * 6 + 1) (.slice (some ⟨g9, 0, none⟩) (E.length + 1) cap9) (Or.inl (fun e => hne9.2.2 e.symm))).trans r1
              have s2 := (set_other w9 (w0.heap.size + 6) g9 0 (E.length * 6 + 2) (.slice (some ⟨g9, 0, none⟩) (E.length + 1) cap9) (Or.inl (fun e => hne9.2.2 e.symm))).trans r2_
              have s3 := (set_other w9 (w0.heap.size + 6) g9 0 (E.length * 6 + 3) (.slice (some ⟨g9, 0, none⟩) (E.length + 1) cap9) (Or.inl (fun e => hne9.2.2 e.symm))).trans r3
              have s4 := (set_other w9 (w0.heap.size + 6) g9 0 (E.length * 6 + 4) (.slice (some ⟨g9, 0, none⟩) (E.length + 1) cap9) (Or.inl (fun e => hne9.2.2 e.symm))).trans r4
              have s5 := (set_other w9 (w0.heap.size + 6) g9 0 (E.length * 6 + 5) (.slice (some ⟨g9, 0, none⟩) (E.length + 1) cap9) (Or.inl (fun e => hne9.2.2 e.symm))).trans r5
              have sf : ∀ o, (w9.setCell ⟨w0.heap.size + 6, 0, none⟩ (.slice (some ⟨g9, 0, none⟩) (E.length + 1) cap9)).frozen? ⟨g9, o, none⟩ = false := fun o => (World.frozen?_of_block (w := w9) (a := ⟨g9, o, none⟩) (Below.heap_setCell _ _ _ _ hne9.2.2)).trans (rf o)
              have HFI : Hid (Mo6 w9 (put6 (w9.setCell ⟨w0.heap.size + 6, 0, none⟩ (.slice (some ⟨g9, 0, none⟩) (E.length + 1) cap9)) g9 (E.length * 6) (.string (mkS x.tx)) (.int .i64 T.kd) (.int .i64 T.nm) (.string T.st) (.slice t1 t2 t3) (.slice t4 t5 t6)) g9 (w0.heap.size + 6) (E.length * 6) (.slice (some ⟨g9, 0, none⟩) (E.length + 1) cap9) (.string (mkS x.tx)) (.int .i64 T.kd) (.int .i64 T.nm) (.string T.st) (.slice t1 t2 t3) (.slice t4 t5 t6)) := hid (mo6_b hne9.2.2)
              have HS2 := hid (mo6_two hne9 ⟨y0, y1⟩ HFI.out)
              have HPE := hid (hnd.out _ HFI.out)
              generalize (w9.setCell ⟨w0.heap.size + 6, 0, none⟩ (.slice (some ⟨g9, 0, none⟩) (E.length + 1) cap9)) = WA at q0 q1 s0 s1 s2 s3 s4 s5 sf HS2 HPE ⊢
              clear HFI r0 r1 r2_ r3 r4 r5 rf x0 xf y0 y1 hS9
              refine hKK.out _ _ ⟨q0, q1⟩ (fun hSA => ?_)
              clear hKK KK
              refine step_h (i := 11) rfl (by kernel_rfl) ?_
              intro KK hKK
              go_simp
              change KK _ (put6 WA g9 (E.length * 6) (.string (mkS x.tx)) (.int .i64 T.kd) (.int .i64 T.nm) (.string T.st) (.slice t1 t2 t3) (.slice t4 t5 t6))
              refine hKK.out _ _ HS2.out (fun _ => ?_)
              clear hKK KK
              refine wpAnyH_done (by kernel_rfl) ?_ _
              first | go_end0 | refine bodyPost_ret (results_none rfl _ _ _) rfl ?_
              rw [HST.out]; exact ⟨rfl, HPE.out⟩
      · intro KK hKK
        go_simp
        go_wp2_with fail
        go_at_call 41
        refine (HCV.out _ HKB.out.aj).mono ?_
        intro e wc13 hp
        cases hv : jrV f (d + 1) n r2 with
        | bad er a =>
          rw [hv] at hp
          have hfa := hp.1
          have HPP : Hid (Ps w0 b t K (AccP w0 b d) R0 e wc13) := hid (by rw [HST.out, hv]; exact ⟨hp.1, HKB.out.ow.trans hp.2⟩)
          unfold Faulted at hfa
          subst hfa
          generalize faultV t (a : Int) (er : Int) = fv at HPP ⊢
          clear hp hv
          go_wp2_with fail
          first | exact ⟨rfl, HPP.out⟩ | exact HPP.out | (simp only [bodyPost]; exact HPP.out)
        | ok T m q =>
          rw [hv] at hp HST
          simp only at HST
          obtain ⟨t1, t2, t3, t4, t5, t6, rfl, hka, hoc⟩ := kb6_read HKB.out hbw HBK.out hp
          have H14 := hid hka
          have HEND := hid (HEND0.out T (.slice t1 t2 t3) (.slice t4 t5 t6) m q hv)
          clear hp hka hoc
          simp only [vv]
          go_wp2_with fail
          refine hKK.out _ _ ⟨H14.out.lj.cr, H14.out.lj.cd⟩ (fun _ => ?_)
          clear hKK KK
          try simp only [Act.put, List.setIfInBounds_toArray, List.set_cons_zero, List.set_cons_succ]
          refine take_h (i := 6) (v := ?_) rfl (by kernel_rfl) (by kernel_rfl) (by kernel_rfl) (fun _ _ _ h => h) (by rfl) ?_ ⟨H14.out.lj.cr, H14.out.lj.cd⟩ ?_
          rotate_left
          · (intro X hX; obtain ⟨y0, y1⟩ := hX; go_simp; try with_reducible rfl)
          simp only [Act.put, List.setIfInBounds_toArray, List.set_cons_zero, List.set_cons_succ]
          refine step2_h (i := 0) (j := 8) rfl rfl (by kernel_rfl) ?_ ?_
          · intro KK hKK
            have ci15 := H14.out.lj.ci
            go_simp
            refine hKK.out _ _ ⟨H14.out.lj.cr, H14.out.lj.cd⟩ (fun _ => ?_)
            clear hKK KK ci15
            try simp only [Act.put, List.setIfInBounds_toArray, List.set_cons_zero, List.set_cons_succ]
            refine take_h (i := 7) (v := ?_) rfl (by kernel_rfl) (by kernel_rfl) (by kernel_rfl) (fun _ _ _ h => h) (by rfl) ?_ ⟨H14.out.lj.cr, H14.out.lj.cd⟩ ?_
            rotate_left
            · (intro X hX; obtain ⟨y0, y1⟩ := hX; go_simp; try with_reducible rfl)
            simp only [Act.put, List.setIfInBounds_toArray, List.set_cons_zero, List.set_cons_succ]
            refine step_h (i := 8) rfl (by kernel_rfl) ?_
            intro KK hKK
            go_simp
            change KK _ (wc13.alloc (.cells #[.string ⟨#[]⟩, .int .i64 0, .int .i64 0, .string ⟨#[]⟩, .slice none 0 0, .slice none 0 0] 52))
            have H16 := hid (H14.out.on hbw (valloc_bel (Below.refl _ _) (.cells #[.string ⟨#[]⟩, .int .i64 0, .int .i64 0, .string ⟨#[]⟩, .slice none 0 0, .slice none 0 0] 52)))
            have zc17 : Hid (∀ (j : Nat) (u : Value), ([.string ⟨#[]⟩, .int .i64 0, .int .i64 0, .string ⟨#[]⟩, .slice none 0 0, .slice none 0 0] : List Value)[j]? = some u → (wc13.alloc (.cells #[.string ⟨#[]⟩, .int .i64 0, .int .i64 0, .string ⟨#[]⟩, .slice none 0 0, .slice none 0 0] 52)).cell? (Addr.add ⟨wc13.heap.size, 0, none⟩ j) = some u) := hid (new_cells wc13 [.string ⟨#[]⟩, .int .i64 0, .int .i64 0, .string ⟨#[]⟩, .slice none 0 0, .slice none 0 0] 52)
            generalize (wc13.alloc (.cells #[.string ⟨#[]⟩, .int .i64 0, .int .i64 0, .string ⟨#[]⟩, .slice none 0 0, .slice none 0 0] 52)) = X18 at H16 zc17 ⊢
            refine hKK.out _ _ ⟨H16.out.lj.cr, H16.out.lj.cd⟩ (fun _ => ?_)
            clear hKK KK
            try simp only [Act.put, List.setIfInBounds_toArray, List.set_cons_zero, List.set_cons_succ]
            have hsx := H16.out.ow.size
            have hbg := H16.out.lj.big
            refine step_h (i := 9) rfl (by kernel_rfl) ?_
            intro KK hKK
            refine step_append_lies _ (by rfl) _ _ _ (by rfl) (w0.heap.size + 5) 52 i0 (.agg #[.string ⟨#[]⟩, .int .i64 0, .int .i64 0, .string ⟨#[]⟩, .slice none 0 0, .slice none 0 0]) 6 96 Tryz.underlying25 hi hz0 hz1 hz2 rfl (by decide) _ E.length _ (by rfl) H16.out.lj.own ⟨wc13.heap.size, 0, none⟩ 1 1 [.string ⟨#[]⟩, .int .i64 0, .int .i64 0, .string ⟨#[]⟩, .slice none 0 0, .slice none 0 0] (by rfl) rfl zc17.out (by intro u hu; simp at hu; rcases hu with rfl | rfl | rfl | rfl | rfl | rfl <;> rfl) (by decide) (by unfold maxLen; omega) (by omega) (by omega) X18.heap.size rfl ?_
            intro g9 cap9 w9 hown9 hgr9 hat9 hlt9
            obtain ⟨y0, y1, hne9, r0, r1, r2_, r3, r4, r5, rf, x0, xf⟩ := ka6_row H16.out hown9 hgr9 hat9
            have hS9 : w9.cell? ⟨w0.heap.size, 0, none⟩ = some (.pointer (some ⟨b, 0, none⟩)) ∧ w9.cell? ⟨w0.heap.size + 1, 0, none⟩ = some (.int .i64 (d : Int)) := ⟨y0, y1⟩
            refine hKK.out _ _ hS9 (fun _ => ?_)
            clear hKK KK
            try simp only [Act.put, List.setIfInBounds_toArray, List.set_cons_zero, List.set_cons_succ]
            refine take_h (i := 10) (v := ?_) rfl (by kernel_rfl) (by kernel_rfl) (by kernel_rfl) (fun _ _ _ h => h) (by rfl) ?_ hS9 ?_
            rotate_left
            · (intro X hX; obtain ⟨y0, y1⟩ := hX; go_simp; try with_reducible rfl)
            simp only [Act.put, List.setIfInBounds_toArray, List.set_cons_zero, List.set_cons_succ]
            have hnd := hid (HEND.out _ _ _ _ _ H16.out hown9 hgr9 hat9)
            refine step2_h (i := 11) (j := 12) rfl rfl (by kernel_rfl) ?_ ?_
            · intro KK hKK
              go_simp
              change KK _ (put6 w9 g9 (E.length * 6) (.string (mkS x.tx)) (.int .i64 T.kd) (.int .i64 T.nm) (.string T.st) (.slice t1 t2 t3) (.slice t4 t5 t6))
              have q0 := (World.cell?_of_block (w := w9) (a := ⟨w0.heap.size, 0, none⟩) (put6_heap w9 g9 (E.length * 6) (.string (mkS x.tx)) (.int .i64 T.kd) (.int .i64 T.nm) (.string T.st) (.slice t1 t2 t3) (.slice t4 t5 t6) w0.heap.size hne9.1)).trans y0
              have q1 := (World.cell?_of_block (w := w9) (a := ⟨w0.heap.size + 1, 0, none⟩) (put6_heap w9 g9 (E.length * 6) (.string (mkS x.tx)) (.int .i64 T.kd) (.int .i64 T.nm) (.string T.st) (.slice t1 t2 t3) (.slice t4 t5 t6) (w0.heap.size + 1) hne9.2.1)).trans y1
              have q2 := (World.cell?_of_block (w := w9) (a := ⟨w0.heap.size + 6, 0, none⟩) (put6_heap w9 g9 (E.length * 6) (.string (mkS x.tx)) (.int .i64 T.kd) (.int .i64 T.nm) (.string T.st) (.slice t1 t2 t3) (.slice t4 t5 t6) (w0.heap.size + 6) (fun e => hne9.2.2 e.symm))).trans x0
              have q3 := (World.frozen?_of_block (w := w9) (a := ⟨w0.heap.size + 6, 0, none⟩) (put6_heap w9 g9 (E.length * 6) (.string (mkS x.tx)) (.int .i64 T.kd) (.int .i64 T.nm) (.string T.st) (.slice t1 t2 t3) (.slice t4 t5 t6) (w0.heap.size + 6) (fun e => hne9.2.2 e.symm))).trans (xf 0)
              have HFI : Hid (Mo6 w9 ((put6 w9 g9 (E.length * 6) (.string (mkS x.tx)) (.int .i64 T.kd) (.int .i64 T.nm) (.string T.st) (.slice t1 t2 t3) (.slice t4 t5 t6)).setCell ⟨w0.heap.size + 6, 0, none⟩ (.slice (some ⟨g9, 0, none⟩) (E.length + 1) cap9)) g9 (w0.heap.size + 6) (E.length * 6) (.slice (some ⟨g9, 0, none⟩) (E.length + 1) cap9) (.string (mkS x.tx)) (.int .i64 T.kd) (.int .i64 T.nm) (.string T.st) (.slice t1 t2 t3) (.slice t4 t5 t6)) := hid (mo6_a hne9.2.2)
              have HS2 := hid (mo6_two hne9 ⟨y0, y1⟩ HFI.out)
              have HPE := hid (hnd.out _ HFI.out)
              generalize (put6 w9 g9 (E.length * 6) (.string (mkS x.tx)) (.int .i64 T.kd) (.int .i64 T.nm) (.string T.st) (.slice t1 t2 t3) (.slice t4 t5 t6)) = WA at q0 q1 q2 q3 HS2 HPE ⊢
              clear HFI r0 r1 r2_ r3 r4 r5 rf x0 xf y0 y1 hS9
              refine hKK.out _ _ ⟨q0, q1⟩ (fun hSA => ?_)
              clear hKK KK
              refine step_h (i := 12) rfl (by kernel_rfl) ?_
              intro KK hKK
              go_simp
              refine hKK.out _ _ HS2.out (fun _ => ?_)
              clear hKK KK
              refine wpAnyH_done (by kernel_rfl) ?_ _
              first | go_end0 | refine bodyPost_ret (results_none rfl _ _ _) rfl ?_
              rw [HST.out]; exact ⟨rfl, HPE.out⟩
            · intro KK hKK
              go_simp
              have q0 := (set_other w9 (w0.heap.size + 6) w0.heap.size 0 0 (.slice (some ⟨g9, 0, none⟩) (E.length + 1) cap9) (Or.inl (by omega))).trans y0
              have q1 := (set_other w9 (w0.heap.size + 6) (w0.heap.size + 1) 0 0 (.slice (some ⟨g9, 0, none⟩) (E.length + 1) cap9) (Or.inl (by omega))).trans y1
              have s0 := (set_other w9 (w0.heap.size + 6) g9 0 (E.length * 6) (.slice (some ⟨g9, 0, none⟩) (E.length + 1) cap9) (Or.inl (fun e => hne9.2.2 e.symm))).trans r0
              have s1 := (set_other w9 (w0.heap.size + 6) g9 0 (E.length * 6 + 1) (.slice (some ⟨g9, 0, none⟩) (E.length + 1) cap9) (Or.inl (fun e => hne9.2.2 e.symm))).trans r1
              have s2 := (set_other w9 (w0.heap.size + 6) g9 0 (E.length * 6 + 2) (.slice (some ⟨g9, 0, none⟩) (E.length + 1) cap9) (Or.inl (fun e => hne9.2.2 e.symm))).trans r2_
              have s3 := (set_other w9 (w0.heap.size + 6) g9 0 (E.length * 6 + 3) (.slice (some ⟨g9, 0, none⟩) (E.length + 1) cap9) (Or.inl (fun e => hne9.2.2 e.symm))).trans r3
              have s4 := (set_other w9 (w0.heap.size + 6) g9 0 (E.length * 6 + 4) (.slice (some ⟨g9, 0, none⟩) (E.length + 1) cap9) (Or.inl (fun e => hne9.2.2 e.symm))).trans r4
              have s5 := (set_other w9 (w0.heap.size + 6) g9 0 (E.length * 6 + 5) (.slice (some ⟨g9, 0, none⟩) (E.length + 1) cap9) (Or.inl (fun e => hne9.2.2 e.symm))).trans r5
              have sf : ∀ o, (w9.setCell ⟨w0.heap.size + 6, 0, none⟩ (.slice (some ⟨g9, 0, none⟩) (E.length + 1) cap9)).frozen? ⟨g9, o, none⟩ = false := fun o => (World.frozen?_of_block (w := w9) (a := ⟨g9, o, none⟩) (Below.heap_setCell _ _ _ _ hne9.2.2)).trans (rf o)
              have HFI : Hid (Mo6 w9 (put6 (w9.setCell ⟨w0.heap.size + 6, 0, none⟩ (.slice (some ⟨g9, 0, none⟩) (E.length + 1) cap9)) g9 (E.length * 6) (.string (mkS x.tx)) (.int .i64 T.kd) (.int .i64 T.nm) (.string T.st) (.slice t1 t2 t3) (.slice t4 t5 t6)) g9 (w0.heap.size + 6) (E.length * 6) (.slice (some ⟨g9, 0, none⟩) (E.length + 1) cap9) (.string (mkS x.tx)) (.int .i64 T.kd) (.int .i64 T.nm) (.string T.st) (.slice t1 t2 t3) (.slice t4 t5 t6)) := hid (mo6_b hne9.2.2)
              have HS2 := hid (mo6_two hne9 ⟨y0, y1⟩ HFI.out)
              have HPE := hid (hnd.out _ HFI.out)
              generalize (w9.setCell ⟨w0.heap.size + 6, 0, none⟩ (.slice (some ⟨g9, 0, none⟩) (E.length + 1) cap9)) = WA at q0 q1 s0 s1 s2 s3 s4 s5 sf HS2 HPE ⊢
              clear HFI r0 r1 r2_ r3 r4 r5 rf x0 xf y0 y1 hS9
              refine hKK.out _ _ ⟨q0, q1⟩ (fun hSA => ?_)
              clear hKK KK
              refine step_h (i := 11) rfl (by kernel_rfl) ?_
              intro KK hKK
              go_simp
              change KK _ (put6 WA g9 (E.length * 6) (.string (mkS x.tx)) (.int .i64 T.kd) (.int .i64 T.nm) (.string T.st) (.slice t1 t2 t3) (.slice t4 t5 t6))
              refine hKK.out _ _ HS2.out (fun _ => ?_)
              clear hKK KK
              refine wpAnyH_done (by kernel_rfl) ?_ _
              first | go_end0 | refine bodyPost_ret (results_none rfl _ _ _) rfl ?_
              rw [HST.out]; exact ⟨rfl, HPE.out⟩
          · intro KK hKK
            go_simp
            change KK _ (wc13.alloc (.cells #[.string ⟨#[]⟩, .int .i64 0, .int .i64 0, .string ⟨#[]⟩, .slice none 0 0, .slice none 0 0] 52))
            have H19 := hid (H14.out.on hbw (valloc_bel (Below.refl _ _) (.cells #[.string ⟨#[]⟩, .int .i64 0, .int .i64 0, .string ⟨#[]⟩, .slice none 0 0, .slice none 0 0] 52)))
            have zc20 : Hid (∀ (j : Nat) (u : Value), ([.string ⟨#[]⟩, .int .i64 0, .int .i64 0, .string ⟨#[]⟩, .slice none 0 0, .slice none 0 0] : List Value)[j]? = some u → (wc13.alloc (.cells #[.string ⟨#[]⟩, .int .i64 0, .int .i64 0, .string ⟨#[]⟩, .slice none 0 0, .slice none 0 0] 52)).cell? (Addr.add ⟨wc13.heap.size, 0, none⟩ j) = some u) := hid (new_cells wc13 [.string ⟨#[]⟩, .int .i64 0, .int .i64 0, .string ⟨#[]⟩, .slice none 0 0, .slice none 0 0] 52)
            generalize (wc13.alloc (.cells #[.string ⟨#[]⟩, .int .i64 0, .int .i64 0, .string ⟨#[]⟩, .slice none 0 0, .slice none 0 0] 52)) = X21 at H19 zc20 ⊢
            refine hKK.out _ _ ⟨H19.out.lj.cr, H19.out.lj.cd⟩ (fun _ => ?_)
            clear hKK KK
            try simp only [Act.put, List.setIfInBounds_toArray, List.set_cons_zero, List.set_cons_succ]
            refine step_h (i := 0) rfl (by kernel_rfl) ?_
            intro KK hKK
            have ci22 := H19.out.lj.ci
            go_simp
            refine hKK.out _ _ ⟨H19.out.lj.cr, H19.out.lj.cd⟩ (fun _ => ?_)
            clear hKK KK ci22
            try simp only [Act.put, List.setIfInBounds_toArray, List.set_cons_zero, List.set_cons_succ]
            refine take_h (i := 7) (v := ?_) rfl (by kernel_rfl) (by kernel_rfl) (by kernel_rfl) (fun _ _ _ h => h) (by rfl) ?_ ⟨H19.out.lj.cr, H19.out.lj.cd⟩ ?_
            rotate_left
            · (intro X hX; obtain ⟨y0, y1⟩ := hX; go_simp; try with_reducible rfl)
            simp only [Act.put, List.setIfInBounds_toArray, List.set_cons_zero, List.set_cons_succ]
            have hsx := H19.out.ow.size
            have hbg := H19.out.lj.big
            refine step_h (i := 9) rfl (by kernel_rfl) ?_
            intro KK hKK
            refine step_append_lies _ (by rfl) _ _ _ (by rfl) (w0.heap.size + 5) 52 i0 (.agg #[.string ⟨#[]⟩, .int .i64 0, .int .i64 0, .string ⟨#[]⟩, .slice none 0 0, .slice none 0 0]) 6 96 Tryz.underlying25 hi hz0 hz1 hz2 rfl (by decide) _ E.length _ (by rfl) H19.out.lj.own ⟨wc13.heap.size, 0, none⟩ 1 1 [.string ⟨#[]⟩, .int .i64 0, .int .i64 0, .string ⟨#[]⟩, .slice none 0 0, .slice none 0 0] (by rfl) rfl zc20.out (by intro u hu; simp at hu; rcases hu with rfl | rfl | rfl | rfl | rfl | rfl <;> rfl) (by decide) (by unfold maxLen; omega) (by omega) (by omega) X21.heap.size rfl ?_
            intro g9 cap9 w9 hown9 hgr9 hat9 hlt9
            obtain ⟨y0, y1, hne9, r0, r1, r2_, r3, r4, r5, rf, x0, xf⟩ := ka6_row H19.out hown9 hgr9 hat9
            have hS9 : w9.cell? ⟨w0.heap.size, 0, none⟩ = some (.pointer (some ⟨b, 0, none⟩)) ∧ w9.cell? ⟨w0.heap.size + 1, 0, none⟩ = some (.int .i64 (d : Int)) := ⟨y0, y1⟩
            refine hKK.out _ _ hS9 (fun _ => ?_)
            clear hKK KK
            try simp only [Act.put, List.setIfInBounds_toArray, List.set_cons_zero, List.set_cons_succ]
            refine take_h (i := 10) (v := ?_) rfl (by kernel_rfl) (by kernel_rfl) (by kernel_rfl) (fun _ _ _ h => h) (by rfl) ?_ hS9 ?_
            rotate_left
            · (intro X hX; obtain ⟨y0, y1⟩ := hX; go_simp; try with_reducible rfl)
            simp only [Act.put, List.setIfInBounds_toArray, List.set_cons_zero, List.set_cons_succ]
            have hnd := hid (HEND.out _ _ _ _ _ H19.out hown9 hgr9 hat9)
            refine step2_h (i := 11) (j := 12) rfl rfl (by kernel_rfl) ?_ ?_
            · intro KK hKK
              go_simp
              change KK _ (put6 w9 g9 (E.length * 6) (.string (mkS x.tx)) (.int .i64 T.kd) (.int .i64 T.nm) (.string T.st) (.slice t1 t2 t3) (.slice t4 t5 t6))
              have q0 := (World.cell?_of_block (w := w9) (a := ⟨w0.heap.size, 0, none⟩) (put6_heap w9 g9 (E.length * 6) (.string (mkS x.tx)) (.int .i64 T.kd) (.int .i64 T.nm) (.string T.st) (.slice t1 t2 t3) (.slice t4 t5 t6) w0.heap.size hne9.1)).trans y0
              have q1 := (World.cell?_of_block (w := w9) (a := ⟨w0.heap.size + 1, 0, none⟩) (put6_heap w9 g9 (E.length * 6) (.string (mkS x.tx)) (.int .i64 T.kd) (.int .i64 T.nm) (.string T.st) (.slice t1 t2 t3) (.slice t4 t5 t6) (w0.heap.size + 1) hne9.2.1)).trans y1
              have q2 := (World.cell?_of_block (w := w9) (a := ⟨w0.heap.size + 6, 0, none⟩) (put6_heap w9 g9 (E.length * 6) (.string (mkS x.tx)) (.int .i64 T.kd) (.int .i64 T.nm) (.string T.st) (.slice t1 t2 t3) (.slice t4 t5 t6) (w0.heap.size + 6) (fun e => hne9.2.2 e.symm))).trans x0
              have q3 := (World.frozen?_of_block (w := w9) (a := ⟨w0.heap.size + 6, 0, none⟩) (put6_heap w9 g9 (E.length * 6) (.string (mkS x.tx)) (.int .i64 T.kd) (.int .i64 T.nm) (.string T.st) (.slice t1 t2 t3) (.slice t4 t5 t6) (w0.heap.size + 6) (fun e => hne9.2.2 e.symm))).trans (xf 0)
              have HFI : Hid (Mo6 w9 ((put6 w9 g9 (E.length * 6) (.string (mkS x.tx)) (.int .i64 T.kd) (.int .i64 T.nm) (.string T.st) (.slice t1 t2 t3) (.slice t4 t5 t6)).setCell ⟨w0.heap.size + 6, 0, none⟩ (.slice (some ⟨g9, 0, none⟩) (E.length + 1) cap9)) g9 (w0.heap.size + 6) (E.length * 6) (.slice (some ⟨g9, 0, none⟩) (E.length + 1) cap9) (.string (mkS x.tx)) (.int .i64 T.kd) (.int .i64 T.nm) (.string T.st) (.slice t1 t2 t3) (.slice t4 t5 t6)) := hid (mo6_a hne9.2.2)
              have HS2 := hid (mo6_two hne9 ⟨y0, y1⟩ HFI.out)
              have HPE := hid (hnd.out _ HFI.out)
              generalize (put6 w9 g9 (E.length * 6) (.string (mkS x.tx)) (.int .i64 T.kd) (.int .i64 T.nm) (.string T.st) (.slice t1 t2 t3) (.slice t4 t5 t6)) = WA at q0 q1 q2 q3 HS2 HPE ⊢
              clear HFI r0 r1 r2_ r3 r4 r5 rf x0 xf y0 y1 hS9
              refine hKK.out _ _ ⟨q0, q1⟩ (fun hSA => ?_)
              clear hKK KK
              refine step_h (i := 12) rfl (by kernel_rfl) ?_
              intro KK hKK
              go_simp
              refine hKK.out _ _ HS2.out (fun _ => ?_)
              clear hKK KK
              refine wpAnyH_done (by kernel_rfl) ?_ _
              first | go_end0 | refine bodyPost_ret (results_none rfl _ _ _) rfl ?_
              rw [HST.out]; exact ⟨rfl, HPE.out⟩
            · intro KK hKK
              go_simp
              have q0 := (set_other w9 (w0.heap.size + 6) w0.heap.size 0 0 (.slice (some ⟨g9, 0, none⟩) (E.length + 1) cap9) (Or.inl (by omega))).trans y0
              have q1 := (set_other w9 (w0.heap.size + 6) (w0.heap.size + 1) 0 0 (.slice (some ⟨g9, 0, none⟩) (E.length + 1) cap9) (Or.inl (by omega))).trans y1
              have s0 := (set_other w9 (w0.heap.size + 6) g9 0 (E.length * 6) (.slice (some ⟨g9, 0, none⟩) (E.length + 1) cap9) (Or.inl (fun e => hne9.2.2 e.symm))).trans r0
              have s1 := (set_other w9 (w0.heap.size + 6) g9 0 (E.length * 6 + 1) (.slice (some ⟨g9, 0, none⟩) (E.length + 1) cap9) (Or.inl (fun e => hne9.2.2 e.symm))).trans r1
              have s2 := (set_other w9 (w0.heap.size + 6) g9 0 (E.length * 6 + 2) (.slice (some ⟨g9, 0, none⟩) (E.length + 1) cap9) (Or.inl (fun e => hne9.2.2 e.symm))).trans r2_
              have s3 := (set_other w9 (w0.heap.size + 6) g9 0 (E.length * 6 + 3) (.slice (some ⟨g9, 0, none⟩) (E.length + 1) cap9) (Or.inl (fun e => hne9.2.2 e.symm))).trans r3
              have s4 := (set_other w9 (w0.heap.size + 6) g9 0 (E.length * 6 + 4) (.slice (some ⟨g9, 0, none⟩) (E.length + 1) cap9) (Or.inl (fun e => hne9.2.2 e.symm))).trans r4
              have s5 := (set_other w9 (w0.heap.size + 6) g9 0 (E.length * 6 + 5) (.slice (some ⟨g9, 0, none⟩) (E.length + 1) cap9) (Or.inl (fun e => hne9.2.2 e.symm))).trans r5
              have sf : ∀ o, (w9.setCell ⟨w0.heap.size + 6, 0, none⟩ (.slice (some ⟨g9, 0, none⟩) (E.length + 1) cap9)).frozen? ⟨g9, o, none⟩ = false := fun o => (World.frozen?_of_block (w := w9) (a := ⟨g9, o, none⟩) (Below.heap_setCell _ _ _ _ hne9.2.2)).trans (rf o)
              have HFI : Hid (Mo6 w9 (put6 (w9.setCell ⟨w0.heap.size + 6, 0, none⟩ (.slice (some ⟨g9, 0, none⟩) (E.length + 1) cap9)) g9 (E.length * 6) (.string (mkS x.tx)) (.int .i64 T.kd) (.int .i64 T.nm) (.string T.st) (.slice t1 t2 t3) (.slice t4 t5 t6)) g9 (w0.heap.size + 6) (E.length * 6) (.slice (some ⟨g9, 0, none⟩) (E.length + 1) cap9) (.string (mkS x.tx)) (.int .i64 T.kd) (.int .i64 T.nm) (.string T.st) (.slice t1 t2 t3) (.slice t4 t5 t6)) := hid (mo6_b hne9.2.2)
              have HS2 := hid (mo6_two hne9 ⟨y0, y1⟩ HFI.out)
              have HPE := hid (hnd.out _ HFI.out)
              generalize (w9.setCell ⟨w0.heap.size + 6, 0, none⟩ (.slice (some ⟨g9, 0, none⟩) (E.length + 1) cap9)) = WA at q0 q1 s0 s1 s2 s3 s4 s5 sf HS2 HPE ⊢
              clear HFI r0 r1 r2_ r3 r4 r5 rf x0 xf y0 y1 hS9
              refine hKK.out _ _ ⟨q0, q1⟩ (fun hSA => ?_)
              clear hKK KK
              refine step_h (i := 11) rfl (by kernel_rfl) ?_
              intro KK hKK
              go_simp
              change KK _ (put6 WA g9 (E.length * 6) (.string (mkS x.tx)) (.int .i64 T.kd) (.int .i64 T.nm) (.string T.st) (.slice t1 t2 t3) (.slice t4 t5 t6))
              refine hKK.out _ _ HS2.out (fun _ => ?_)
              clear hKK KK
              refine wpAnyH_done (by kernel_rfl) ?_ _
              first | go_end0 | refine bodyPost_ret (results_none rfl _ _ _) rfl ?_
              rw [HST.out]; exact ⟨rfl, HPE.out⟩
      · intro KK hKK
        go_simp
        change KK _ (w2.drew.alloc (.cells #[.string ⟨#[]⟩, .int .i64 0, .int .i64 0, .string ⟨#[]⟩, .slice none 0 0, .slice none 0 0] 52))
        have H23 := hid (HKB.out.on hbw (valloc_bel (Below.refl _ _) (.cells #[.string ⟨#[]⟩, .int .i64 0, .int .i64 0, .string ⟨#[]⟩, .slice none 0 0, .slice none 0 0] 52)))
        have zc24 : Hid (∀ (j : Nat) (u : Value), ([.string ⟨#[]⟩, .int .i64 0, .int .i64 0, .string ⟨#[]⟩, .slice none 0 0, .slice none 0 0] : List Value)[j]? = some u → (w2.drew.alloc (.cells #[.string ⟨#[]⟩, .int .i64 0, .int .i64 0, .string ⟨#[]⟩, .slice none 0 0, .slice none 0 0] 52)).cell? (Addr.add ⟨w2.heap.size, 0, none⟩ j) = some u) := hid (new_cells w2.drew [.string ⟨#[]⟩, .int .i64 0, .int .i64 0, .string ⟨#[]⟩, .slice none 0 0, .slice none 0 0] 52)
        generalize (w2.drew.alloc (.cells #[.string ⟨#[]⟩, .int .i64 0, .int .i64 0, .string ⟨#[]⟩, .slice none 0 0, .slice none 0 0] 52)) = X25 at H23 zc24 ⊢
        refine hKK.out _ _ ⟨H23.out.lj.cr, H23.out.lj.cd⟩ (fun _ => ?_)
        clear hKK KK
        try simp only [Act.put, List.setIfInBounds_toArray, List.set_cons_zero, List.set_cons_succ]
        refine step2_h (i := 0) (j := 5) rfl rfl (by kernel_rfl) ?_ ?_
        · intro KK hKK
          have ci26 := H23.out.lj.ci
          go_simp
          refine hKK.out _ _ ⟨H23.out.lj.cr, H23.out.lj.cd⟩ (fun _ => ?_)
          clear hKK KK ci26
          try simp only [Act.put, List.setIfInBounds_toArray, List.set_cons_zero, List.set_cons_succ]
          refine take_h (i := 7) (v := ?_) rfl (by kernel_rfl) (by kernel_rfl) (by kernel_rfl) (fun _ _ _ h => h) (by rfl) ?_ ⟨H23.out.lj.cr, H23.out.lj.cd⟩ ?_
          rotate_left
          · (intro X hX; obtain ⟨y0, y1⟩ := hX; go_simp; try with_reducible rfl)
          simp only [Act.put, List.setIfInBounds_toArray, List.set_cons_zero, List.set_cons_succ]
          refine step_h (i := 5) rfl (by kernel_rfl) ?_
          intro KK hKK
          go_simp
          go_wp2_with fail
          go_at_call 41
          refine (HCV.out _ H23.out.aj).mono ?_
          intro e wc27 hp
          cases hv : jrV f (d + 1) n r2 with
          | bad er a =>
            rw [hv] at hp
            have hfa := hp.1
            have HPP : Hid (Ps w0 b t K (AccP w0 b d) R0 e wc27) := hid (by rw [HST.out, hv]; exact ⟨hp.1, H23.out.ow.trans hp.2⟩)
            unfold Faulted at hfa
            subst hfa
            generalize faultV t (a : Int) (er : Int) = fv at HPP ⊢
            clear hp hv
            go_wp2_with fail
            first | exact ⟨rfl, HPP.out⟩ | exact HPP.out | (simp only [bodyPost]; exact HPP.out)
          | ok T m q =>
            rw [hv] at hp HST
            simp only at HST
            obtain ⟨t1, t2, t3, t4, t5, t6, rfl, hka, hoc⟩ := kb6_read H23.out hbw HBK.out hp
            have H28 := hid hka
            have zc29 := hid (fun j u hj => hoc.cell (zc24.out j u hj) (by rw [addr_block]; show ¬ w2.heap.size = b; omega))
            have HEND := hid (HEND0.out T (.slice t1 t2 t3) (.slice t4 t5 t6) m q hv)
            clear hp hka hoc
            simp only [vv]
            go_wp2_with fail
            refine hKK.out _ _ ⟨H28.out.lj.cr, H28.out.lj.cd⟩ (fun _ => ?_)
            clear hKK KK
            try simp only [Act.put, List.setIfInBounds_toArray, List.set_cons_zero, List.set_cons_succ]
            refine take_h (i := 6) (v := ?_) rfl (by kernel_rfl) (by kernel_rfl) (by kernel_rfl) (fun _ _ _ h => h) (by rfl) ?_ ⟨H28.out.lj.cr, H28.out.lj.cd⟩ ?_
            rotate_left
            · (intro X hX; obtain ⟨y0, y1⟩ := hX; go_simp; try with_reducible rfl)
            simp only [Act.put, List.setIfInBounds_toArray, List.set_cons_zero, List.set_cons_succ]
            have hsx := H28.out.ow.size
            have hbg := H28.out.lj.big
            refine step_h (i := 9) rfl (by kernel_rfl) ?_
            intro KK hKK
            refine step_append_lies _ (by rfl) _ _ _ (by rfl) (w0.heap.size + 5) 52 i0 (.agg #[.string ⟨#[]⟩, .int .i64 0, .int .i64 0, .string ⟨#[]⟩, .slice none 0 0, .slice none 0 0]) 6 96 Tryz.underlying25 hi hz0 hz1 hz2 rfl (by decide) _ E.length _ (by rfl) H28.out.lj.own ⟨w2.heap.size, 0, none⟩ 1 1 [.string ⟨#[]⟩, .int .i64 0, .int .i64 0, .string ⟨#[]⟩, .slice none 0 0, .slice none 0 0] (by rfl) rfl zc29.out (by intro u hu; simp at hu; rcases hu with rfl | rfl | rfl | rfl | rfl | rfl <;> rfl) (by decide) (by unfold maxLen; omega) (by omega) (by omega) wc27.heap.size rfl ?_
            intro g9 cap9 w9 hown9 hgr9 hat9 hlt9
            obtain ⟨y0, y1, hne9, r0, r1, r2_, r3, r4, r5, rf, x0, xf⟩ := ka6_row H28.out hown9 hgr9 hat9
            have hS9 : w9.cell? ⟨w0.heap.size, 0, none⟩ = some (.pointer (some ⟨b, 0, none⟩)) ∧ w9.cell? ⟨w0.heap.size + 1, 0, none⟩ = some (.int .i64 (d : Int)) := ⟨y0, y1⟩
            refine hKK.out _ _ hS9 (fun _ => ?_)
            clear hKK KK
            try simp only [Act.put, List.setIfInBounds_toArray, List.set_cons_zero, List.set_cons_succ]
            refine take_h (i := 10) (v := ?_) rfl (by kernel_rfl) (by kernel_rfl) (by kernel_rfl) (fun _ _ _ h => h) (by rfl) ?_ hS9 ?_
            rotate_left
            · (intro X hX; obtain ⟨y0, y1⟩ := hX; go_simp; try with_reducible rfl)
            simp only [Act.put, List.setIfInBounds_toArray, List.set_cons_zero, List.set_cons_succ]
            have hnd := hid (HEND.out _ _ _ _ _ H28.out hown9 hgr9 hat9)
            refine step2_h (i := 11) (j := 12) rfl rfl (by kernel_rfl) ?_ ?_
            · intro KK hKK
              go_simp
              change KK _ (put6 w9 g9 (E.length * 6) (.string (mkS x.tx)) (.int .i64 T.kd) (.int .i64 T.nm) (.string T.st) (.slice t1 t2 t3) (.slice t4 t5 t6))
              have q0 := (World.cell?_of_block (w := w9) (a := ⟨w0.heap.size, 0, none⟩) (put6_heap w9 g9 (E.length * 6) (.string (mkS x.tx)) (.int .i64 T.kd) (.int .i64 T.nm) (.string T.st) (.slice t1 t2 t3) (.slice t4 t5 t6) w0.heap.size hne9.1)).trans y0
              have q1 := (World.cell?_of_block (w := w9) (a := ⟨w0.heap.size + 1, 0, none⟩) (put6_heap w9 g9 (E.length * 6) (.string (mkS x.tx)) (.int .i64 T.kd) (.int .i64 T.nm) (.string T.st) (.slice t1 t2 t3) (.slice t4 t5 t6) (w0.heap.size + 1) hne9.2.1)).trans y1
              have q2 := (World.cell?_of_block (w := w9) (a := ⟨w0.heap.size + 6, 0, none⟩) (put6_heap w9 g9 (E.length * 6) (.string (mkS x.tx)) (.int .i64 T.kd) (.int .i64 T.nm) (.string T.st) (.slice t1 t2 t3) (.slice t4 t5 t6) (w0.heap.size + 6) (fun e => hne9.2.2 e.symm))).trans x0
              have q3 := (World.frozen?_of_block (w := w9) (a := ⟨w0.heap.size + 6, 0, none⟩) (put6_heap w9 g9 (E.length * 6) (.string (mkS x.tx)) (.int .i64 T.kd) (.int .i64 T.nm) (.string T.st) (.slice t1 t2 t3) (.slice t4 t5 t6) (w0.heap.size + 6) (fun e => hne9.2.2 e.symm))).trans (xf 0)
              have HFI : Hid (Mo6 w9 ((put6 w9 g9 (E.length * 6) (.string (mkS x.tx)) (.int .i64 T.kd) (.int .i64 T.nm) (.string T.st) (.slice t1 t2 t3) (.slice t4 t5 t6)).setCell ⟨w0.heap.size + 6, 0, none⟩ (.slice (some ⟨g9, 0, none⟩) (E.length + 1) cap9)) g9 (w0.heap.size + 6) (E.length * 6) (.slice (some ⟨g9, 0, none⟩) (E.length + 1) cap9) (.string (mkS x.tx)) (.int .i64 T.kd) (.int .i64 T.nm) (.string T.st) (.slice t1 t2 t3) (.slice t4 t5 t6)) := hid (mo6_a hne9.2.2)
              have HS2 := hid (mo6_two hne9 ⟨y0, y1⟩ HFI.out)
              have HPE := hid (hnd.out _ HFI.out)
              generalize (put6 w9 g9 (E.length * 6) (.string (mkS x.tx)) (.int .i64 T.kd) (.int .i64 T.nm) (.string T.st) (.slice t1 t2 t3) (.slice t4 t5 t6)) = WA at q0 q1 q2 q3 HS2 HPE ⊢
              clear HFI r0 r1 r2_ r3 r4 r5 rf x0 xf y0 y1 hS9
              refine hKK.out _ _ ⟨q0, q1⟩ (fun hSA => ?_)
              clear hKK KK
              refine step_h (i := 12) rfl (by kernel_rfl) ?_
              intro KK hKK
              go_simp
              refine hKK.out _ _ HS2.out (fun _ => ?_)
              clear hKK KK
              refine wpAnyH_done (by kernel_rfl) ?_ _
              first | go_end0 | refine bodyPost_ret (results_none rfl _ _ _) rfl ?_
              rw [HST.out]; exact ⟨rfl, HPE.out⟩
            · intro KK hKK
              go_simp
              have q0 := (set_other w9 (w0.heap.size + 6) w0.heap.size 0 0 (.slice (some ⟨g9, 0, none⟩) (E.length + 1) cap9) (Or.inl (by omega))).trans y0
              have q1 := (set_other w9 (w0.heap.size + 6) (w0.heap.size + 1) 0 0 (.slice (some ⟨g9, 0, none⟩) (E.length + 1) cap9) (Or.inl (by omega))).trans y1
              have s0 := (set_other w9 (w0.heap.size + 6) g9 0 (E.length * 6) (.slice (some ⟨g9, 0, none⟩) (E.length + 1) cap9) (Or.inl (fun e => hne9.2.2 e.symm))).trans r0
              have s1 := (set_other w9 (w0.heap.size + 6) g9 0 (E.length * 6 + 1) (.slice (some ⟨g9, 0, none⟩) (E.length + 1) cap9) (Or.inl (fun e => hne9.2.2 e.symm))).trans r1
              have s2 := (set_other w9 (w0.heap.size + 6) g9 0 (E.length * 6 + 2) (.slice (some ⟨g9, 0, none⟩) (E.length + 1) cap9) (Or.inl (fun e => hne9.2.2 e.symm))).trans r2_
              have s3 := (set_other w9 (w0.heap.size + 6) g9 0 (E.length * 6 + 3) (.slice (some ⟨g9, 0, none⟩) (E.length + 1) cap9) (Or.inl (fun e => hne9.2.2 e.symm))).trans r3
              have s4 := (set_other w9 (w0.heap.size + 6) g9 0 (E.length * 6 + 4) (.slice (some ⟨g9, 0, none⟩) (E.length + 1) cap9) (Or.inl (fun e => hne9.2.2 e.symm))).trans r4
              have s5 := (set_other w9 (w0.heap.size + 6) g9 0 (E.length * 6 + 5) (.slice (some ⟨g9, 0, none⟩) (E.length + 1) cap9) (Or.inl (fun e => hne9.2.2 e.symm))).trans r5
              have sf : ∀ o, (w9.setCell ⟨w0.heap.size + 6, 0, none⟩ (.slice (some ⟨g9, 0, none⟩) (E.length + 1) cap9)).frozen? ⟨g9, o, none⟩ = false := fun o => (World.frozen?_of_block (w := w9) (a := ⟨g9, o, none⟩) (Below.heap_setCell _ _ _ _ hne9.2.2)).trans (rf o)
              have HFI : Hid (Mo6 w9 (put6 (w9.setCell ⟨w0.heap.size + 6, 0, none⟩ (.slice (some ⟨g9, 0, none⟩) (E.length + 1) cap9)) g9 (E.length * 6) (.string (mkS x.tx)) (.int .i64 T.kd) (.int .i64 T.nm) (.string T.st) (.slice t1 t2 t3) (.slice t4 t5 t6)) g9 (w0.heap.size + 6) (E.length * 6) (.slice (some ⟨g9, 0, none⟩) (E.length + 1) cap9) (.string (mkS x.tx)) (.int .i64 T.kd) (.int .i64 T.nm) (.string T.st) (.slice t1 t2 t3) (.slice t4 t5 t6)) := hid (mo6_b hne9.2.2)
              have HS2 := hid (mo6_two hne9 ⟨y0, y1⟩ HFI.out)
              have HPE := hid (hnd.out _ HFI.out)
              generalize (w9.setCell ⟨w0.heap.size + 6, 0, none⟩ (.slice (some ⟨g9, 0, none⟩) (E.length + 1) cap9)) = WA at q0 q1 s0 s1 s2 s3 s4 s5 sf HS2 HPE ⊢
              clear HFI r0 r1 r2_ r3 r4 r5 rf x0 xf y0 y1 hS9
              refine hKK.out _ _ ⟨q0, q1⟩ (fun hSA => ?_)
              clear hKK KK
              refine step_h (i := 11) rfl (by kernel_rfl) ?_
              intro KK hKK
              go_simp
              change KK _ (put6 WA g9 (E.length * 6) (.string (mkS x.tx)) (.int .i64 T.kd) (.int .i64 T.nm) (.string T.st) (.slice t1 t2 t3) (.slice t4 t5 t6))
              refine hKK.out _ _ HS2.out (fun _ => ?_)
              clear hKK KK
              refine wpAnyH_done (by kernel_rfl) ?_ _
              first | go_end0 | refine bodyPost_ret (results_none rfl _ _ _) rfl ?_
              rw [HST.out]; exact ⟨rfl, HPE.out⟩
        · intro KK hKK
          go_simp
          go_wp2_with fail
          go_at_call 41
          refine (HCV.out _ H23.out.aj).mono ?_
          intro e wc30 hp
          cases hv : jrV f (d + 1) n r2 with
          | bad er a =>
            rw [hv] at hp
            have hfa := hp.1
            have HPP : Hid (Ps w0 b t K (AccP w0 b d) R0 e wc30) := hid (by rw [HST.out, hv]; exact ⟨hp.1, H23.out.ow.trans hp.2⟩)
            unfold Faulted at hfa
            subst hfa
            generalize faultV t (a : Int) (er : Int) = fv at HPP ⊢
            clear hp hv
            go_wp2_with fail
            first | exact ⟨rfl, HPP.out⟩ | exact HPP.out | (simp only [bodyPost]; exact HPP.out)
          | ok T m q =>
            rw [hv] at hp HST
            simp only at HST
            obtain ⟨t1, t2, t3, t4, t5, t6, rfl, hka, hoc⟩ := kb6_read H23.out hbw HBK.out hp
            have H31 := hid hka
            have zc32 := hid (fun j u hj => hoc.cell (zc24.out j u hj) (by rw [addr_block]; show ¬ w2.heap.size = b; omega))
            have HEND := hid (HEND0.out T (.slice t1 t2 t3) (.slice t4 t5 t6) m q hv)
            clear hp hka hoc
            simp only [vv]
            go_wp2_with fail
            refine hKK.out _ _ ⟨H31.out.lj.cr, H31.out.lj.cd⟩ (fun _ => ?_)
            clear hKK KK
            try simp only [Act.put, List.setIfInBounds_toArray, List.set_cons_zero, List.set_cons_succ]
            refine take_h (i := 6) (v := ?_) rfl (by kernel_rfl) (by kernel_rfl) (by kernel_rfl) (fun _ _ _ h => h) (by rfl) ?_ ⟨H31.out.lj.cr, H31.out.lj.cd⟩ ?_
            rotate_left
            · (intro X hX; obtain ⟨y0, y1⟩ := hX; go_simp; try with_reducible rfl)
            simp only [Act.put, List.setIfInBounds_toArray, List.set_cons_zero, List.set_cons_succ]
            refine step_h (i := 0) rfl (by kernel_rfl) ?_
            intro KK hKK
            have ci33 := H31.out.lj.ci
            go_simp
            refine hKK.out _ _ ⟨H31.out.lj.cr, H31.out.lj.cd⟩ (fun _ => ?_)
            clear hKK KK ci33
            try simp only [Act.put, List.setIfInBounds_toArray, List.set_cons_zero, List.set_cons_succ]
            refine take_h (i := 7) (v := ?_) rfl (by kernel_rfl) (by kernel_rfl) (by kernel_rfl) (fun _ _ _ h => h) (by rfl) ?_ ⟨H31.out.lj.cr, H31.out.lj.cd⟩ ?_
            rotate_left
            · (intro X hX; obtain ⟨y0, y1⟩ := hX; go_simp; try with_reducible rfl)
            simp only [Act.put, List.setIfInBounds_toArray, List.set_cons_zero, List.set_cons_succ]
            have hsx := H31.out.ow.size
            have hbg := H31.out.lj.big
            refine step_h (i := 9) rfl (by kernel_rfl) ?_
            intro KK hKK
            refine step_append_lies _ (by rfl) _ _ _ (by rfl) (w0.heap.size + 5) 52 i0 (.agg #[.string ⟨#[]⟩, .int .i64 0, .int .i64 0, .string ⟨#[]⟩, .slice none 0 0, .slice none 0 0]) 6 96 Tryz.underlying25 hi hz0 hz1 hz2 rfl (by decide) _ E.length _ (by rfl) H31.out.lj.own ⟨w2.heap.size, 0, none⟩ 1 1 [.string ⟨#[]⟩, .int .i64 0, .int .i64 0, .string ⟨#[]⟩, .slice none 0 0, .slice none 0 0] (by rfl) rfl zc32.out (by intro u hu; simp at hu; rcases hu with rfl | rfl | rfl | rfl | rfl | rfl <;> rfl) (by decide) (by unfold maxLen; omega) (by omega) (by omega) wc30.heap.size rfl ?_
            intro g9 cap9 w9 hown9 hgr9 hat9 hlt9
            obtain ⟨y0, y1, hne9, r0, r1, r2_, r3, r4, r5, rf, x0, xf⟩ := ka6_row H31.out hown9 hgr9 hat9
            have hS9 : w9.cell? ⟨w0.heap.size, 0, none⟩ = some (.pointer (some ⟨b, 0, none⟩)) ∧ w9.cell? ⟨w0.heap.size + 1, 0, none⟩ = some (.int .i64 (d : Int)) := ⟨y0, y1⟩
            refine hKK.out _ _ hS9 (fun _ => ?_)
            clear hKK KK
            try simp only [Act.put, List.setIfInBounds_toArray, List.set_cons_zero, List.set_cons_succ]
            refine take_h (i := 10) (v := ?_) rfl (by kernel_rfl) (by kernel_rfl) (by kernel_rfl) (fun _ _ _ h => h) (by rfl) ?_ hS9 ?_
            rotate_left
            · (intro X hX; obtain ⟨y0, y1⟩ := hX; go_simp; try with_reducible rfl)
            simp only [Act.put, List.setIfInBounds_toArray, List.set_cons_zero, List.set_cons_succ]
            have hnd := hid (HEND.out _ _ _ _ _ H31.out hown9 hgr9 hat9)
            refine step2_h (i := 11) (j := 12) rfl rfl (by kernel_rfl) ?_ ?_
            · intro KK hKK
              go_simp
              change KK _ (put6 w9 g9 (E.length * 6) (.string (mkS x.tx)) (.int .i64 T.kd) (.int .i64 T.nm) (.string T.st) (.slice t1 t2 t3) (.slice t4 t5 t6))
              have q0 := (World.cell?_of_block (w := w9) (a := ⟨w0.heap.size, 0, none⟩) (put6_heap w9 g9 (E.length * 6) (.string (mkS x.tx)) (.int .i64 T.kd) (.int .i64 T.nm) (.string T.st) (.slice t1 t2 t3) (.slice t4 t5 t6) w0.heap.size hne9.1)).trans y0
              have q1 := (World.cell?_of_block (w := w9) (a := ⟨w0.heap.size + 1, 0, none⟩) (put6_heap w9 g9 (E.length * 6) (.string (mkS x.tx)) (.int .i64 T.kd) (.int .i64 T.nm) (.string T.st) (.slice t1 t2 t3) (.slice t4 t5 t6) (w0.heap.size + 1) hne9.2.1)).trans y1
              have q2 := (World.cell?_of_block (w := w9) (a := ⟨w0.heap.size + 6, 0, none⟩) (put6_heap w9 g9 (E.length * 6) (.string (mkS x.tx)) (.int .i64 T.kd) (.int .i64 T.nm) (.string T.st) (.slice t1 t2 t3) (.slice t4 t5 t6) (w0.heap.size + 6) (fun e => hne9.2.2 e.symm))).trans x0
              have q3 := (World.frozen?_of_block (w := w9) (a := ⟨w0.heap.size + 6, 0, none⟩) (put6_heap w9 g9 (E.length * 6) (.string (mkS x.tx)) (.int .i64 T.kd) (.int .i64 T.nm) (.string T.st) (.slice t1 t2 t3) (.slice t4 t5 t6) (w0.heap.size + 6) (fun e => hne9.2.2 e.symm))).trans (xf 0)
              have HFI : Hid (Mo6 w9 ((put6 w9 g9 (E.length * 6) (.string (mkS x.tx)) (.int .i64 T.kd) (.int .i64 T.nm) (.string T.st) (.slice t1 t2 t3) (.slice t4 t5 t6)).setCell ⟨w0.heap.size + 6, 0, none⟩ (.slice (some ⟨g9, 0, none⟩) (E.length + 1) cap9)) g9 (w0.heap.size + 6) (E.length * 6) (.slice (some ⟨g9, 0, none⟩) (E.length + 1) cap9) (.string (mkS x.tx)) (.int .i64 T.kd) (.int .i64 T.nm) (.string T.st) (.slice t1 t2 t3) (.slice t4 t5 t6)) := hid (mo6_a hne9.2.2)
              have HS2 := hid (mo6_two hne9 ⟨y0, y1⟩ HFI.out)
              have HPE := hid (hnd.out _ HFI.out)
              generalize (put6 w9 g9 (E.length * 6) (.string (mkS x.tx)) (.int .i64 T.kd) (.int .i64 T.nm) (.string T.st) (.slice t1 t2 t3) (.slice t4 t5 t6)) = WA at q0 q1 q2 q3 HS2 HPE ⊢
              clear HFI r0 r1 r2_ r3 r4 r5 rf x0 xf y0 y1 hS9
              refine hKK.out _ _ ⟨q0, q1⟩ (fun hSA => ?_)
              clear hKK KK
              refine step_h (i := 12) rfl (by kernel_rfl) ?_
              intro KK hKK
              go_simp
              refine hKK.out _ _ HS2.out (fun _ => ?_)
              clear hKK KK
              refine wpAnyH_done (by kernel_rfl) ?_ _
              first | go_end0 | refine bodyPost_ret (results_none rfl _ _ _) rfl ?_
              rw [HST.out]; exact ⟨rfl, HPE.out⟩
            · intro KK hKK
              go_simp
              have q0 := (set_other w9 (w0.heap.size + 6) w0.heap.size 0 0 (.slice (some ⟨g9, 0, none⟩) (E.length + 1) cap9) (Or.inl (by omega))).trans y0
              have q1 := (set_other w9 (w0.heap.size + 6) (w0.heap.size + 1) 0 0 (.slice (some ⟨g9, 0, none⟩) (E.length + 1) cap9) (Or.inl (by omega))).trans y1
              have s0 := (set_other w9 (w0.heap.size + 6) g9 0 (E.length * 6) (.slice (some ⟨g9, 0, none⟩) (E.length + 1) cap9) (Or.inl (fun e => hne9.2.2 e.symm))).trans r0
              have s1 := (set_other w9 (w0.heap.size + 6) g9 0 (E.length * 6 + 1) (.slice (some ⟨g9, 0, none⟩) (E.length + 1) cap9) (Or.inl (fun e => hne9.2.2 e.symm))).trans r1
              have s2 := (set_other w9 (w0.heap.size + 6) g9 0 (E.length * 6 + 2) (.slice (some ⟨g9, 0, none⟩) (E.length + 1) cap9) (Or.inl (fun e => hne9.2.2 e.symm))).trans r2_
              have s3 := (set_other w9 (w0.heap.size + 6) g9 0 (E.length * 6 + 3) (.slice (some ⟨g9, 0, none⟩) (E.length + 1) cap9) (Or.inl (fun e => hne9.2.2 e.symm))).trans r3
              have s4 := (set_other w9 (w0.heap.size + 6) g9 0 (E.length * 6 + 4) (.slice (some ⟨g9, 0, none⟩) (E.length + 1) cap9) (Or.inl (fun e => hne9.2.2 e.symm))).trans r4
              have s5 := (set_other w9 (w0.heap.size + 6) g9 0 (E.length * 6 + 5) (.slice (some ⟨g9, 0, none⟩) (E.length + 1) cap9) (Or.inl (fun e => hne9.2.2 e.symm))).trans r5
              have sf : ∀ o, (w9.setCell ⟨w0.heap.size + 6, 0, none⟩ (.slice (some ⟨g9, 0, none⟩) (E.length + 1) cap9)).frozen? ⟨g9, o, none⟩ = false := fun o => (World.frozen?_of_block (w := w9) (a := ⟨g9, o, none⟩) (Below.heap_setCell _ _ _ _ hne9.2.2)).trans (rf o)
              have HFI : Hid (Mo6 w9 (put6 (w9.setCell ⟨w0.heap.size + 6, 0, none⟩ (.slice (some ⟨g9, 0, none⟩) (E.length + 1) cap9)) g9 (E.length * 6) (.string (mkS x.tx)) (.int .i64 T.kd) (.int .i64 T.nm) (.string T.st) (.slice t1 t2 t3) (.slice t4 t5 t6)) g9 (w0.heap.size + 6) (E.length * 6) (.slice (some ⟨g9, 0, none⟩) (E.length + 1) cap9) (.string (mkS x.tx)) (.int .i64 T.kd) (.int .i64 T.nm) (.string T.st) (.slice t1 t2 t3) (.slice t4 t5 t6)) := hid (mo6_b hne9.2.2)
              have HS2 := hid (mo6_two hne9 ⟨y0, y1⟩ HFI.out)
              have HPE := hid (hnd.out _ HFI.out)
              generalize (w9.setCell ⟨w0.heap.size + 6, 0, none⟩ (.slice (some ⟨g9, 0, none⟩) (E.length + 1) cap9)) = WA at q0 q1 s0 s1 s2 s3 s4 s5 sf HS2 HPE ⊢
              clear HFI r0 r1 r2_ r3 r4 r5 rf x0 xf y0 y1 hS9
              refine hKK.out _ _ ⟨q0, q1⟩ (fun hSA => ?_)
              clear hKK KK
              refine step_h (i := 11) rfl (by kernel_rfl) ?_
              intro KK hKK
              go_simp
              change KK _ (put6 WA g9 (E.length * 6) (.string (mkS x.tx)) (.int .i64 T.kd) (.int .i64 T.nm) (.string T.st) (.slice t1 t2 t3) (.slice t4 t5 t6))
              refine hKK.out _ _ HS2.out (fun _ => ?_)
              clear hKK KK
              refine wpAnyH_done (by kernel_rfl) ?_ _
              first | go_end0 | refine bodyPost_ret (results_none rfl _ _ _) rfl ?_
              rw [HST.out]; exact ⟨rfl, HPE.out⟩
end Go.Proofs.YtkhjahpkbjafaaaGreatDoor
namespace Go.Proofs.YtkhjahpkbjafaaaGreatDoor
open Go.RowKit

theorem in_zero (w : World) (o : Option Addr) (c : Nat) (hc : c ≤ maxLen) : InM w [] [] (.slice o 0 c) :=
  ⟨⟨0, 0, none⟩, fun _ => .nilIface, fun _ => .nilIface, ⟨o, c, rfl, Nat.zero_le _, hc, fun h => absurd h (by simp)⟩, rfl, fun i u h => by simp at h, fun i t h => by simp at h, fun i t h => by simp at h⟩
set_option maxRecDepth 100000 in
set_option maxHeartbeats 2000000 in
theorem vmap_zero (b off c : Nat) (w : World) :
    Calls Tryz.prog 93 #[.slice (some ⟨b, off, none⟩) 0 c] w fun e w' => ∃ X Y, e = .returned (.tuple #[vv (.mk 6 0 ⟨#[]⟩ [] [] []) X Y, .int .i64 0]) ∧ HF w' w.heap.size w'.heap.size (.mk 6 0 ⟨#[]⟩ [] [] []) X Y ∧ Below w.heap.size w w' := by
  obtain ⟨i0, hi0, hz⟩ := Option.map_eq_some_iff.1 Tryz.info34
  simp only [Prod.mk.injEq] at hz
  obtain ⟨hz0, hz1, hz2⟩ := hz
  have HCL := hid (fun X : World => AnyE.slices_Clone Tryz.laysClone i0 _ 6 96 hi0 hz0 hz1 hz2 rfl (by decide) Tryz.sizeOf52 b off 0 c [] X rfl (Nat.zero_le _) (by omega) (fun j u hu => by simp at hu) (fun u hu => by simp at hu))
  have HSF := hid (fun (p : Option Addr) (cap : Nat) (X : World) => AnyF.slices_SortFunc_none { Tryz.laysSort with } p cap (.func (.func 118) #[] #[]) X)
  have HK := hid (fun (p : Option Addr) (cap : Nat) (hc : cap ≤ maxLen) (X : World) => kerr_any [] [] _ X (in_zero X p cap hc))
  have HC := hid (fun (p : Option Addr) (cap : Nat) (hc : cap ≤ maxLen) (X : World) => copypairs_of [] [] _ X (fun i t h => by simp at h) (in_zero X p cap hc) (by simp))
  go_enter Tryz.func93, Tryz.ntmps93
  go_wp2_with fail
  go_at_call 116
  refine Calls.mono (HCL.out _) ?_
  rintro e w1 ⟨v', rfl, hown, hne, hb1⟩
  obtain ⟨o1, c1, rfl, hc1⟩ : ∃ o1 c1, v' = .slice o1 0 c1 ∧ c1 ≤ maxLen := by
    rcases hown with ⟨-, ⟨h', -⟩ | ⟨g, cap, cur, h', -, -, -, hcm, -⟩⟩
    · exact ⟨none, 0, h', Nat.zero_le _⟩
    · exact ⟨_, cap, h', hcm⟩
  have R1 := hid (box_row hb1)
  have HB1 := hid (vonto (valloc_bel (Below.refl w.heap.size w) _) hb1)
  clear hown hne hb1
  go_wp2_with fail
  go_at_call 117
  refine Calls.mono (HSF.out _ _ _) ?_
  rintro e w2 ⟨rfl, rfl⟩
  go_wp2_with fail
  go_at_call 120
  refine (HK.out o1 c1 hc1 _).mono ?_
  rintro e w3 ⟨rfl, hb3⟩
  rw [show keI [] = 0 from rfl]
  have R3 := hid (R1.out.onto (hb3.block _ R1.out.lt))
  have HB3 := hid (vonto HB1.out hb3)
  clear hb3
  go_wp2_with fail
  go_at_call 121
  refine (HC.out o1 c1 hc1 _).mono ?_
  rintro e w4 ⟨Y, rfl, hY, hb4⟩
  obtain ⟨pY, nY, cY, rfl⟩ := hY.slice
  have HY := hid hY
  have R0 := hid (R3.out.onto (hb4.block _ R3.out.lt))
  have HB4 := hid (vonto HB3.out hb4)
  have hs3 : w.heap.size < w3.heap.size := R3.out.lt
  have hs4 := hb4.size
  clear hY hb4
  obtain ⟨u0, e0⟩ := R0.out.cell (o := 0) (by decide)
  obtain ⟨u1, e1⟩ := R0.out.cell (o := 1) (by decide)
  obtain ⟨u2, e2⟩ := R0.out.cell (o := 2) (by decide)
  obtain ⟨u3, e3⟩ := R0.out.cell (o := 3) (by decide)
  obtain ⟨u4, e4⟩ := R0.out.cell (o := 4) (by decide)
  have z0 := R0.out.frozen
  go_wp2_with fail
  refine bodyPost_ret (v := .tuple #[vv (.mk 6 0 ⟨#[]⟩ [] [] []) (.slice none 0 0) (.slice pY nY cY), .int .i64 0]) (by simp [results, Tryz.results93, go_sem, vv, VT.kd, VT.nm, VT.st, e0, e1, e2, e3, e4]) rfl ⟨.slice none 0 0, .slice pY nY cY, rfl, ?_, ?_⟩
  · change HF (put5 w4 w.heap.size 0 (.int .i64 6) (.int .i64 0) (.string ⟨#[]⟩) (.slice none 0 0) (.slice pY nY cY)) w.heap.size (put5 w4 w.heap.size 0 (.int .i64 6) (.int .i64 0) (.string ⟨#[]⟩) (.slice none 0 0) (.slice pY nY cY)).heap.size _ _ _
    rw [put5_size]
    refine hf_of (m := w3.heap.size) list_wf.2.1 list_wf.2.2 (by decide) (by omega) hs4 (lf_nil _ _ _) ?_
    exact HY.out.onto (fun k g1 g2 => put5_heap _ _ _ _ _ _ _ _ _ (by omega))
  · exact vset_bel (vset_bel (vset_bel (vset_bel (vset_bel HB4.out (by simp)) (by simp)) (by simp)) (by simp)) (by simp)
theorem MJ.inm {w wr : World} {b d : Nat} {ks : List ByteArray} {E : List (ByteArray × VT × Value × Value)} {u : Value} (h : MJ w wr b d ks E u) : InM wr ((prs E).map (·.1)) ((prs E).map (·.2)) u := by
  obtain ⟨a, f, g, h1, h2, -, h4, h5, h6⟩ := own_ms (S := fun _ => True) h.own (fun e he => ⟨(h.prt e he).1, (h.prt e he).2.onto (fun _ _ => rfl) (fun _ _ => trivial)⟩) (fun _ _ => trivial)
  have e1 : (prs E).map (·.1) = E.map (·.1) := by unfold prs; rw [List.map_map]; rfl
  have e2 : (prs E).map (·.2) = E.map (·.2.1) := by unfold prs; rw [List.map_map]; rfl
  rw [e1, e2]
  exact ⟨a, f, g, h1, h2, h4, h5, fun i t ht => (h6 i t ht).hv⟩
/-- the map that is made of what was read -/
theorem jmap_any {w wr : World} {b d : Nat} {ks : List ByteArray} {E : List (ByteArray × VT × Value × Value)} {u : Value} {s : List (ByteArray × VT)} (h : MJ w wr b d ks E u) (hE : s.Perm (prs E)) (hst : Strict (s.map (·.1))) (hte : ∀ c ∈ s.map (·.1), teI c = 0) (hsz : szL (s.map (·.2)) ≤ 4096) :
    Calls Tryz.prog 93 #[u] wr fun e w' => ∃ X Y, e = .returned (.tuple #[vv (mapT s) X Y, .int .i64 0]) ∧ HF w' wr.heap.size w'.heap.size (mapT s) X Y ∧ Below wr.heap.size wr w' := by
  have hl : (prs E).length = E.length := by unfold prs; rw [List.length_map]
  have hc := h.own
  rcases hc with ⟨-, ⟨rfl, hn⟩ | ⟨a, c, cur, rfl, -⟩⟩
  · have hE0 : E = [] := List.eq_nil_of_length_eq_zero hn
    subst hE0
    have hs0 : s = [] := List.eq_nil_of_length_eq_zero (by have := hE.length_eq; simpa [prs] using this)
    subst hs0
    exact vmap_nil wr
  by_cases h0 : 0 < E.length
  · have hin := h.inm
    have := vmap_any (prs E) wr a 0 c (by rw [hl]; exact hin) (by omega) (by rw [← szL_perm (hE.map (·.2))]; omega)
    simp only [hl] at this
    refine this.mono ?_
    rintro e w' ⟨A', X, Y, hp, hr, rfl, hf, hb⟩
    have hA : A' = s := sorted_one s A' hst hr (hp.trans hE.symm)
    subst hA
    have hk : keI (A'.map (·.1)) = 0 := ke_good (strict_adj hst) (fun c hc => by rw [te_ok, hte c hc]; rfl)
    have hm : mapR A' = mapT A' := by unfold mapR; rw [if_pos hk]; rfl
    rw [hm] at hf
    rw [hk, hm]
    exact ⟨X, Y, rfl, hf, hb⟩
  · have hE0 : E = [] := List.eq_nil_of_length_eq_zero (by omega)
    subst hE0
    have hs0 : s = [] := List.eq_nil_of_length_eq_zero (by have := hE.length_eq; simpa [prs] using this)
    subst hs0
    exact vmap_zero a 0 c wr
/-- where a map's reading begins -/
def pw0 (w : World) (b d : Nat) : World := ((((((w.alloc (.cells #[.pointer (some ⟨b, 0, none⟩)] 90)).alloc (.cells #[.int .i64 (d : Int)] 3)).alloc (.cells #[.int .i64 0, .int .i64 0, .string ⟨#[]⟩, .slice none 0 0, .slice none 0 0] 27)).alloc (.map #[] 0)).alloc (.cells #[.map (some (w.heap.size + 3))] 123)).alloc (.cells #[] 52)).alloc (.cells #[.slice (some ⟨w.heap.size + 5, 0, none⟩) 0 0] 25)
theorem pw0_bel (w : World) (b d : Nat) : Below w.heap.size w (pw0 w b d) := valloc_bel (valloc_bel (valloc_bel (valloc_bel (valloc_bel (valloc_bel (valloc_bel (Below.refl _ _) _) _) _) _) _) _) _
theorem mj_new (w : World) (b d : Nat) : MJ w (pw0 w b d) b d [] [] (.slice (some ⟨w.heap.size + 5, 0, none⟩) 0 0) := by
  unfold pw0
  have e1 : (w.alloc (.cells #[.pointer (some ⟨b, 0, none⟩)] 90)).heap.size = w.heap.size + 1 := by simp
  have c1 := new_cell1 w (.pointer (some ⟨b, 0, none⟩)) 90
  generalize (w.alloc (.cells #[.pointer (some ⟨b, 0, none⟩)] 90)) = w1 at e1 c1 ⊢
  have e2 : (w1.alloc (.cells #[.int .i64 (d : Int)] 3)).heap.size = w.heap.size + 2 := by simp [e1]
  have c2 := new_cell1 w1 (.int .i64 (d : Int)) 3
  have c1' := keepCell (valloc_bel (Below.refl _ _) (.cells #[.int .i64 (d : Int)] 3)) c1
  rw [e1] at c2
  generalize (w1.alloc (.cells #[.int .i64 (d : Int)] 3)) = w2 at e2 c1' c2 ⊢
  have z2 := z5_new w2
  rw [e2] at z2
  have e3 : (w2.alloc (.cells #[.int .i64 0, .int .i64 0, .string ⟨#[]⟩, .slice none 0 0, .slice none 0 0] 27)).heap.size = w.heap.size + 3 := by simp [e2]
  have k3 := valloc_bel (Below.refl w2.heap.size w2) (.cells #[.int .i64 0, .int .i64 0, .string ⟨#[]⟩, .slice none 0 0, .slice none 0 0] 27)
  have d1 := keepCell k3 c1'
  have d2 := keepCell k3 c2
  generalize (w2.alloc (.cells #[.int .i64 0, .int .i64 0, .string ⟨#[]⟩, .slice none 0 0, .slice none 0 0] 27)) = w3 at e3 z2 d1 d2 ⊢
  have s4 := seen_new w3
  rw [e3] at s4
  have e4 : (w3.alloc (.map #[] 0)).heap.size = w.heap.size + 4 := by simp [e3]
  have k4 := valloc_bel (Below.refl w3.heap.size w3) (.map #[] 0)
  have f1 := keepCell k4 d1
  have f2 := keepCell k4 d2
  have z4 := z2.onto k4
  generalize (w3.alloc (.map #[] 0)) = w4 at e4 z4 f1 f2 s4 ⊢
  have k5 := valloc_bel (Below.refl w4.heap.size w4) (.cells #[.map (some (w.heap.size + 3))] 123)
  have c5 := new_cell1 w4 (.map (some (w.heap.size + 3))) 123
  rw [e4] at c5
  have e5 : (w4.alloc (.cells #[.map (some (w.heap.size + 3))] 123)).heap.size = w.heap.size + 5 := by simp [e4]
  have g1 := keepCell k5 f1
  have g2 := keepCell k5 f2
  have z5 := z4.onto k5
  have s5 := s4.kept (k5.block _ s4.lt)
  generalize (w4.alloc (.cells #[.map (some (w.heap.size + 3))] 123)) = w5 at e5 z5 g1 g2 s5 c5 ⊢
  have o6 := World.ownsRow_lit (base := w.heap.size + 5) (e := 52) (size := 6) w5 #[] 0 (by omega) (by decide) rfl
  rw [e5] at o6
  have e6 : (w5.alloc (.cells #[] 52)).heap.size = w.heap.size + 6 := by simp [e5]
  have k6 := valloc_bel (Below.refl w5.heap.size w5) (.cells #[] 52)
  have h1 := keepCell k6 g1
  have h2 := keepCell k6 g2
  have h5 := keepCell k6 c5
  have z6 := z5.onto k6
  have s6 := s5.kept (k6.block _ s5.lt)
  generalize (w5.alloc (.cells #[] 52)) = w6 at e6 z6 h1 h2 h5 s6 o6 ⊢
  have k7 := valloc_bel (Below.refl w6.heap.size w6) (.cells #[.slice (some ⟨w.heap.size + 5, 0, none⟩) 0 0] 25)
  have c7 := new_cell1 w6 (.slice (some ⟨w.heap.size + 5, 0, none⟩) 0 0) 25
  have r7 := Row.new w6 #[.slice (some ⟨w.heap.size + 5, 0, none⟩) 0 0] 25
  rw [e6] at c7 r7
  exact ⟨o6.alloc _, by simp [Value.ownBlock], fun e he => by simp at he, c7, r7, keepCell k7 h1, keepCell k7 h2, keepCell k7 h5, s6.kept (k7.block _ s6.lt), z6.onto k7, by simp [e6]⟩
theorem stP_ends {d : Nat} : ∀ (s : List (ByteArray × VT)) (n : Nat) (ws : List Wd) (f : Nat) (s' : List (ByteArray × VT)) (m : Nat) (q : List Wd), EndW ws → stP d f s n ws = .ok s' m q → q.length < ws.length := by
  intro s n ws f s' m q he h
  cases ws with
  | nil => unfold stP at h; cases h
  | cons x r =>
    unfold stP at h
    dsimp only at h
    split at h
    · cases h
    · rename_i hk
      split at h
      · cases h
      · split at h
        · cases h
        · rename_i h58
          have h58' : isM 58 r = true := Classical.not_not.1 h58
          have hr : EndW r := he.tail (by omega)
          have h1 := isM_tail hr h58'
          cases hv : jrV f (d + 1) n r.tail with
          | bad e a => rw [hv] at h; cases h
          | ok t m' q' =>
            rw [hv] at h
            injection h with g1 g2 g3
            subst g3
            have h2 := ((jr_ends f).1 _ _ _ _ _ _ h1 hv).2.1
            have h3 : r.tail.length ≤ r.length := by rw [List.length_tail]; omega
            simp only [List.length_cons]
            omega
set_option maxRecDepth 100000 in
set_option maxHeartbeats 4000000 in
theorem jpairs8 (N : Nat) (hV : JvOk N) : JpOk N := by
  intro b t v ws n d w f hA hd hN hf
  have hbw : b < w.heap.size := hA.jr.row.lt
  obtain ⟨K, hK, hKw, hKb⟩ : ∃ K, blkV v = some K ∧ K < w.heap.size ∧ ¬ K = b := by
    obtain ⟨x, r, e⟩ := hA.ends.ne
    have := hA.wm
    rw [e] at this
    exact this.blk
  have HA := hid hA
  have HP := hid (fun (W : World) (hP : Pv w b t K (AccP w b d) [] n ws v W) => jparts_any 90 #[.pointer (some ⟨w.heap.size, 0, none⟩), .pointer (some ⟨w.heap.size + 4, 0, none⟩), .pointer (some ⟨w.heap.size + 6, 0, none⟩), .pointer (some ⟨w.heap.size + 1, 0, none⟩)] 125 (stP d) N w b t K (AccP w b d) (enters_of Tryz.func90 (by kernel_rfl) rfl) (accp_far hbw) (fun s n ws v W f h1 h2 h3 => jpairs1 N hV w b t K d hd hbw hKw s n ws v W f h1 h2 h3) stP_ends [] n ws v W f hP hN hf)
  obtain ⟨R0, hR0⟩ : ∃ R0, R0 = (if isM 125 ws = true then Sd.ok [] n ws.tail else ptM 125 (stP d) f [] n ws) := ⟨_, rfl⟩
  have hRR : (if isM 125 ws = true then Rd.ok (mapT []) n ws.tail else jrP f d n [] ws) = R0.rd mapT := by rw [hR0, sd_if, jrP_pt]
  rw [hRR]
  rw [← hR0] at HP
  have hmf : ∀ (fn : Fn) (first cap : Array Value) (w : World), (Instr.makeFunc fn first cap).run Tryz.prog w = .ok (.func fn first cap) w := fun _ _ _ _ => rfl
  have hmm := @run_makeMap Tryz.prog
  clear hA hR0 hRR hV
  go_enter Tryz.func62, Tryz.ntmps62
  go_upto_region 3 with fail
  rw [show w.heap.size + 1 + 1 + 1 + 1 + 1 + 1 = w.heap.size + 6 from rfl, show w.heap.size + 1 + 1 + 1 + 1 + 1 = w.heap.size + 5 from rfl, show w.heap.size + 1 + 1 + 1 + 1 = w.heap.size + 4 from rfl, show w.heap.size + 1 + 1 + 1 = w.heap.size + 3 from rfl, show w.heap.size + 1 + 1 = w.heap.size + 2 from rfl]
  change Code.wp _ _ _ _ (pw0 w b d)
  have H0 := hid (mj_new w b d)
  have HB0 := hid (pw0_bel w b d)
  have cr := H0.out.cr
  generalize pw0 w b d = W0 at H0 HB0 cr ⊢
  have CP := hid (HP.out W0 ⟨⟨HA.out.jr.onto HB0.out, HA.out.wm.onto HB0.out, HA.out.ends, HA.out.fine, HA.out.len, HA.out.txt, HA.out.nod, HA.out.tsz, HA.out.gl.own (Own.of HB0.out)⟩, hK, ⟨Nat.zero_le _, fun i j a b _ h _ => by simp at h, fun c hc => by simp at hc, [], _, List.Perm.refl _, H0.out⟩, Own.of HB0.out⟩)
  clear hmm
  go_wp2_with fail
  go_at_call 87
  refine CP.out.mono ?_
  intro e w1 hps
  cases R0 with
  | bad er a =>
    have hfa := hps.1
    have HPP : Hid (Rj b t v ((Sd.bad (σ := List (ByteArray × VT)) er a).rd mapT) w e w1) := hid hps
    unfold Faulted at hfa
    subst hfa
    generalize faultV t (a : Int) (er : Int) = fv at HPP ⊢
    clear hps CP
    go_wp2_with fail
    first
    | exact ⟨rfl, HPP.out⟩
    | exact HPP.out
  | ok s m q =>
    obtain ⟨rfl, v', hpv⟩ := hps
    obtain ⟨hsz, hst, hte, E, u, hE, hmj⟩ := hpv.acc
    have hnod := hpv.aj.nod
    have HPV := hid hpv
    have HMJ := hid hmj
    have ci := hmj.ci
    have hbig := hmj.big
    obtain ⟨oN, cN, rfl⟩ := own_shape hmj.own
    have CV := hid (jmap_any hmj hE hst hte (by omega))
    clear hpv hmj CP cr
    go_wp2_with fail
    go_at_call 93
    refine CV.out.mono ?_
    rintro e w2 ⟨X, Y, rfl, hx, hb2⟩
    obtain ⟨o1, n1, c1, o2, n2, c2, rfl, rfl⟩ := hv_slices hx.hs.hv
    have HX := hid hx
    have HB2 := hid hb2
    have Z2 := hid (HMJ.out.zer.onto hb2)
    have hs2 := hb2.size
    clear hx hb2 CV ci
    have hal := valloc_bel (Below.refl w2.heap.size w2) (.cells #[.int .i64 6, .int .i64 0, .string ⟨#[]⟩, .slice o1 n1 c1, .slice o2 n2 c2] 27)
    have Z3 := hid (Z2.out.onto hal)
    have HAL := hid hal
    clear hal
    simp only [vv, mapT, VT.kd, VT.nm, VT.st]
    obtain ⟨⟨q0, q1, q2, q3, q4⟩, qf⟩ := Z3.out
    go_wp2_with fail
    obtain ⟨s0, s1, s2, s3, s4⟩ := z5_put Z3.out (mapT s) (.slice o1 n1 c1) (.slice o2 n2 c2)
    simp only [put5, Nat.zero_add, mapT, VT.kd, VT.nm, VT.st] at s0 s1 s2 s3 s4
    refine bodyPost_ret (v := vv (mapT s) (.slice o1 n1 c1) (.slice o2 n2 c2)) (by simp [results, Tryz.results62, go_sem, vv, mapT, VT.kd, VT.nm, VT.st, s0, s1, s2, s3, s4]) rfl ?_
    have hkk := HPV.out.blk
    have hsa := HAL.out.size
    have hfin : Rj b t v (.ok (mapT s) m q) w (.returned (vv (mapT s) (.slice o1 n1 c1) (.slice o2 n2 c2))) (put5 (w2.alloc (.cells #[.int .i64 6, .int .i64 0, .string ⟨#[]⟩, .slice o1 n1 c1, .slice o2 n2 c2] 27)) (w.heap.size + 2) 0 (.int .i64 6) (.int .i64 0) (.string ⟨#[]⟩) (.slice o1 n1 c1) (.slice o2 n2 c2)) :=
      ⟨_, _, v', rfl, ((HPV.out.aj.jr.onto HB2.out).onto HAL.out).same (put5_heap _ _ _ _ _ _ _ _ _ (by omega)), ((HPV.out.aj.wm.onto HB2.out).onto HAL.out).stay hkk (put5_heap _ _ _ _ _ _ _ _ _ (by omega)), hkk.trans hK.symm, hs_put (H := w.heap.size + 2) (lo := w1.heap.size) (by omega) (HX.out.hs.onto (fun k hk => HAL.out.block k hk.2) (fun k hk => ⟨hk.1, by omega⟩)) (by omega), Own.put ((HPV.out.own.trans (Own.of HB2.out)).trans (Own.of HAL.out)) (by omega) _ _ _ _ _⟩
    exact hfin
/-- the program's value, however deep -/
theorem jvalue_all : ∀ N : Nat, JvOk N
  | 0 => fun b t v ws n d w f hA _ hN _ => by
    obtain ⟨x, r, rfl⟩ := hA.ends.ne
    simp at hN
  | N + 1 => jvalue8 N (jlist8 N (jvalue_all N)) (jpairs8 N (jvalue_all N))
end Go.Proofs.YtkhjahpkbjafaaaGreatDoor
namespace Go.Proofs.YtkhjahpkbjafaaaGreatDoor
open Go.RowKit

theorem in_wm {W : World} {v : Value} {ws : List Wd} {o : Obj} (h : InW W ws v) (he : EndW ws) : Wm (W.alloc o) W.heap.size ws v := by
  obtain ⟨o', a, c, h1, h2, h3, h4, h5⟩ := h
  obtain ⟨x, r, rfl⟩ := he.ne
  have hc := (h5 0 x rfl).1
  have hlt := World.block_lt_of_cell? W _ hc
  rw [addr_block] at hlt
  have hb := valloc_bel (Below.refl W.heap.size W) o
  exact ⟨o', a, c, h1, h2, h3, h4, by omega, fun i y hy => ⟨keepCell hb (h5 i y hy).1, keepCell hb (h5 i y hy).2.1, keepCell hb (h5 i y hy).2.2⟩⟩
theorem gb_new {w W : World} {o : Obj} (hg : Glob w) (hb : Below w.heap.size w W) : Gb W.heap.size (W.alloc o) :=
  ⟨w, hg, hb.size, valloc_bel hb o⟩
set_option maxRecDepth 100000 in
set_option maxHeartbeats 4000000 in
theorem jread_any (t : ByteArray) (w : World) (ht : t.size ≤ 1000000) (hg : Glob w) (hu : GlobU w) :
    Calls Tryz.prog 31 #[.string t] w fun e w' => Jp t (jrA t.data.toList) w e w' := by
  have CC := hid (fun X (hX : Below w.heap.size w X) => Tryz.jhas t X ht (hu.on hX))
  have HG := hid hg
  obtain ⟨RA, hRA⟩ : ∃ RA, RA = jrA t.data.toList := ⟨_, rfl⟩
  rw [← hRA]
  have HRA := hid hRA
  clear hRA hg hu
  go_enter Tryz.func31, Tryz.ntmps31
  go_wp2_with fail
  go_at_call 40
  refine (CC.out _ (valloc_bel (Below.refl w.heap.size w) _)).mono ?_
  rintro e w1 ⟨v, rfl, hin, hb1⟩
  have Z1 := hid ((z5_new w).onto hb1)
  have HB1 := hid (vonto (valloc_bel (Below.refl w.heap.size w) _) hb1)
  have hs1 := hb1.size
  simp only [World.size_alloc] at hs1
  have HIN := hid hin
  clear hin hb1 CC
  obtain ⟨ws, hws⟩ : ∃ ws, ws = (cutA t.data.toList).1 := ⟨_, rfl⟩
  obtain ⟨er, her⟩ : ∃ er, er = (cutA t.data.toList).2.1 := ⟨_, rfl⟩
  obtain ⟨a, ha⟩ : ∃ a, a = (cutA t.data.toList).2.2 := ⟨_, rfl⟩
  have HCG := hid (fun (h : er = 0) => cut_good (T := t.data.toList) (by rw [← her]; exact h))
  have HCF := hid (fun (h : er = 0) => cut_fine (T := t.data.toList) (by rw [← her]; exact h))
  unfold jrA at HRA
  unfold jfV
  rw [← hws] at HIN HCG HCF HRA
  rw [← her] at HRA ⊢
  rw [← ha] at HRA ⊢
  clear hws her ha
  obtain ⟨oL, cL, rfl⟩ : ∃ o c, v = .slice o ws.length c := by
    obtain ⟨o, a', c, h, -⟩ := HIN.out
    exact ⟨o, c, h⟩
  by_cases he : er = 0
  rotate_left
  · rw [if_pos he] at HRA
    rw [if_neg he]
    have hne : ((er : Int) != 0) = true := by simp; omega
    have HPP : Hid (∀ w', Below w.heap.size w w' → Jp t RA w (.panicked [{ v := .iface 30 (faultV t (a : Int) (er : Int)), recovered := false }]) w') := hid (fun w' h => by rw [HRA.out]; exact ⟨rfl, h⟩)
    unfold faultV at HPP ⊢
    generalize clN t.size (a : Int) = f1 at HPP ⊢
    generalize ofL t (a : Int) = f2 at HPP ⊢
    generalize ofC t (a : Int) = f3 at HPP ⊢
    clear he HCG HCF HIN HRA
    go_wp2_with fail
    exact ⟨rfl, HPP.out _ (valloc_bel HB1.out _)⟩
  · rw [if_neg (fun h => h he)] at HRA
    rw [if_pos he]
    obtain ⟨hEW, hwl, htx⟩ := HCG.out he
    have HEW := hid hEW
    have HTX := hid htx
    have HFI := hid (HCF.out he)
    subst he
    clear HCG HCF hEW htx
    go_upto_region 4 with fail
    have hal := valloc_bel (Below.refl w1.heap.size w1) (.cells #[.int .i64 0, .int .i64 0, .int .i64 0, .int .i64 0] 30)
    have Z2 := hid (Z1.out.onto hal)
    have HB2 := hid (vonto HB1.out hal)
    have HIN2 := hid (HIN.out.onto hal)
    have hs2 : w.heap.size + 1 ≤ (w1.alloc (.cells #[.int .i64 0, .int .i64 0, .int .i64 0, .int .i64 0] 30)).heap.size := by simp; omega
    clear hal Z1 HB1 HIN
    generalize (w1.alloc (.cells #[.int .i64 0, .int .i64 0, .int .i64 0, .int .i64 0] 30)) = W2 at Z2 HB2 HIN2 hs2 ⊢
    go_upto_region 5 with fail
    have hal := valloc_bel (Below.refl W2.heap.size W2) (.cells #[.string t, .slice oL ws.length cL, .int .i64 0] 67)
    have hjr : Jr (W2.alloc (.cells #[.string t, .slice oL ws.length cL, .int .i64 0] 67)) W2.heap.size t (.slice oL ws.length cL) 0 := ⟨by simp, by simp, by simp, Row.new W2 _ _⟩
    have HAT : Hid (Aj (W2.alloc (.cells #[.string t, .slice oL ws.length cL, .int .i64 0] 67)) W2.heap.size t (.slice oL ws.length cL) ws 0) := hid ⟨hjr, in_wm HIN2.out HEW.out, HEW.out, HFI.out, by omega, HTX.out, by omega, ht, gb_new HG.out HB2.out⟩
    have Z3 := hid (Z2.out.onto hal)
    have HB3 := hid (vonto HB2.out hal)
    have hs3 : w.heap.size + 1 < (W2.alloc (.cells #[.string t, .slice oL ws.length cL, .int .i64 0] 67)).heap.size := by simp; omega
    clear hal hjr Z2 HB2 HIN2
    generalize (W2.alloc (.cells #[.string t, .slice oL ws.length cL, .int .i64 0] 67)) = W3 at HAT Z3 HB3 hs3 ⊢
    generalize W2.heap.size = b at HAT hs2 ⊢
    have CV := hid (jvalue_all ws.length b t (.slice oL ws.length cL) ws 0 1 W3 (2 * ws.length + 2) HAT.out (by omega) (by omega) (by omega))
    rw [show ((1 : Nat) : Int) = 1 from rfl] at CV
    go_wp2_with fail
    go_at_call 41
    refine CV.out.mono ?_
    intro e w4 hp
    cases hv : jrV (2 * ws.length + 2) 1 0 ws with
    | bad er a1 =>
      rw [hv] at hp HRA
      have hfa := hp.1
      have HPP : Hid (Jp t RA w e w4) := hid (by rw [HRA.out]; exact ⟨hp.1, own_bel HB3.out hp.2 (by omega)⟩)
      unfold Faulted at hfa
      subst hfa
      generalize faultV t (a1 : Int) (er : Int) = fv at HPP ⊢
      clear hp hv CV
      go_wp2_with fail
      first
      | exact ⟨rfl, HPP.out⟩
      | exact HPP.out
    | ok T m q =>
      rw [hv] at hp HRA
      obtain ⟨X, Y, v2, rfl, j1, j2, j3, j4, j5⟩ := hp
      obtain ⟨t1, t2, t3, t4, t5, t6, rfl, rfl⟩ := hv_slices j4.hv
      obtain ⟨hEq, hql, -, hm4⟩ := (jr_ends _).1 _ _ _ _ _ _ HEW.out hv
      have hsf := (jr_suf _).1 _ _ _ _ _ _ hv
      obtain ⟨y, r, rfl⟩ := hEq.ne
      simp only at HRA
      have Z4 := hid (Z3.out.far j5 (by omega))
      have HB4 := hid (own_bel HB3.out j5 (by omega))
      have hs4 := j5.size
      have HX4 := hid j4
      have hal := valloc_bel (Below.refl w4.heap.size w4) (.cells #[.int .i64 T.kd, .int .i64 T.nm, .string T.st, .slice t1 t2 t3, .slice t4 t5 t6] 27)
      have J5 := hid (j1.onto hal)
      have WM5 := hid (j2.onto hal)
      have Z5' := hid (Z4.out.onto hal)
      have HB5 := hid (vonto HB4.out hal)
      have HX5 := hid (HX4.out.onto (S' := fun k => W3.heap.size ≤ k ∧ k < (w4.alloc (.cells #[.int .i64 T.kd, .int .i64 T.nm, .string T.st, .slice t1 t2 t3, .slice t4 t5 t6] 27)).heap.size) (fun k hk => hal.block k hk.2) (fun k hk => ⟨hk.1, by have := hal.size; omega⟩))
      have x0 : (w4.alloc (.cells #[.int .i64 T.kd, .int .i64 T.nm, .string T.st, .slice t1 t2 t3, .slice t4 t5 t6] 27)).cell? ⟨w4.heap.size, 0, none⟩ = some (.int .i64 T.kd) := by simp
      have x1 : (w4.alloc (.cells #[.int .i64 T.kd, .int .i64 T.nm, .string T.st, .slice t1 t2 t3, .slice t4 t5 t6] 27)).cell? ⟨w4.heap.size, 1, none⟩ = some (.int .i64 T.nm) := by simp
      have x2 : (w4.alloc (.cells #[.int .i64 T.kd, .int .i64 T.nm, .string T.st, .slice t1 t2 t3, .slice t4 t5 t6] 27)).cell? ⟨w4.heap.size, 2, none⟩ = some (.string T.st) := by simp
      have x3 : (w4.alloc (.cells #[.int .i64 T.kd, .int .i64 T.nm, .string T.st, .slice t1 t2 t3, .slice t4 t5 t6] 27)).cell? ⟨w4.heap.size, 3, none⟩ = some (.slice t1 t2 t3) := by simp
      have x4 : (w4.alloc (.cells #[.int .i64 T.kd, .int .i64 T.nm, .string T.st, .slice t1 t2 t3, .slice t4 t5 t6] 27)).cell? ⟨w4.heap.size, 4, none⟩ = some (.slice t4 t5 t6) := by simp
      clear j1 j2 j3 j4 j5 hal hv CV Z4 HB4 HX4 Z3 HB3 HAT
      simp only [vv]
      go_upto_region 6 with fail
      generalize (w4.alloc (.cells #[.int .i64 T.kd, .int .i64 T.nm, .string T.st, .slice t1 t2 t3, .slice t4 t5 t6] 27)) = W5 at J5 WM5 Z5' HB5 HX5 x0 x1 x2 x3 x4 ⊢
      obtain ⟨a2, n2, c2, rfl⟩ : ∃ a n' c, v2 = .slice (some a) n' c := by
        obtain ⟨o, a, cap, e, -, -, h3, -, -⟩ := WM5.out
        rw [h3 (by simp)] at e
        exact ⟨_, _, _, e⟩
      obtain ⟨rfl, h1, h2, -, k0, k1, k2⟩ := wm_tail WM5.out
      have r1 := J5.out.r1
      unfold maxLen at h2
      by_cases hy : y.kd = 0
      · rw [if_pos hy] at HRA
        have hkb : ((y.kd : Int) != 0) = false := by rw [hy]; rfl
        clear hy
        obtain ⟨⟨q0, q1, q2, q3, q4⟩, qf⟩ := Z5'.out
        go_wp2_with fail
        obtain ⟨s0, s1, s2, s3, s4⟩ := z5_put Z5'.out T (.slice t1 t2 t3) (.slice t4 t5 t6)
        simp only [put5, Nat.zero_add] at s0 s1 s2 s3 s4
        refine bodyPost_ret (v := vv T (.slice t1 t2 t3) (.slice t4 t5 t6)) (by simp [results, Tryz.results31, go_sem, vv, s0, s1, s2, s3, s4]) rfl ?_
        rw [HRA.out]
        exact ⟨t1, t2, t3, t4, t5, t6, rfl, hs_put (H := w.heap.size) (lo := W3.heap.size) (by omega) HX5.out (by omega), put5_bel8 HB5.out (Nat.le_refl _)⟩
      · rw [if_neg hy] at HRA
        have hkb : ((y.kd : Int) != 0) = true := by simp; omega
        have CR := hid (jrefuse_any b t (.slice (some a2) (r.length + 1) c2) m y r 4 W5 J5.out WM5.out ht)
        clear hy
        go_wp2_with fail
        go_at_call 42
        refine CR.out.mono ?_
        rintro e w6 ⟨hfa, hb6⟩
        have HPP : Hid (Jp t RA w e w6) := hid (by rw [HRA.out]; exact ⟨hfa, vonto HB5.out hb6⟩)
        unfold Faulted at hfa
        subst hfa
        generalize faultV t (y.at_ : Int) ((4 : Nat) : Int) = fv at HPP ⊢
        clear hb6 CR
        go_wp2_with fail
        first
        | exact ⟨rfl, HPP.out⟩
        | exact HPP.out
/-- the program's Parse and Valid, at any text -/
theorem jparse_any (t : ByteArray) (w : World) (ht : t.size ≤ 1000000) (hg : Glob w) (hu : GlobU w) :
    Calls Tryz.prog 15 #[.string t] w fun e w' => Jq t (jrA t.data.toList) w e w' :=
  jparse_of t _ w (fun X hX => jread_any t X ht (hg.on hX) (hu.on hX))
end Go.Proofs.YtkhjahpkbjafaaaGreatDoor
