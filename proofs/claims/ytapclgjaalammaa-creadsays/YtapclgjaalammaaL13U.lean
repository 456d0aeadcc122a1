import Derived.Test.YtapclgjaalammaaL13T
import Derived.Test.YtapclgjaalammaaMathCsv3
/- The document's own Rows of CSV. -/
namespace Go.Proofs.Ytapclgjaalammaa
open Go.RowKit

theorem Try.info_ints : (Try.prog.info? 44).map (fun i => (i.zero, i.size, i.bytes)) = some (some (.slice none 0 0), 1, 24) := by kernel_rfl
/-- what the document's Rows ends in -/
def Du (t : ByteArray) (w : World) (R : CTR) (e : Ending) (w' : World) : Prop := match R with
  | .ok rs => ∃ o n c o' n' c' E, e = .returned (.tuple #[.slice o n c, .slice o' n' c', .agg #[.int .i64 0, .int .i64 0]]) ∧ E.map (·.1) = rs ∧ Rws w' w.heap.size (.slice o n c) E ∧ Below w.heap.size w w'
  | .bad er r => e = .returned (.tuple #[.slice none 0 0, .slice none 0 0, .agg #[.int .i64 (er : Int), .int .i64 ((t.size - r.length : Nat) : Int)]]) ∧ Below w.heap.size w w'
theorem Rws.kept {W W' : World} {base b : Nat} {u v : Value} {E : List (List (List UInt8) × Value)} {ty : TypeId} {n : Nat} {xs : List Value} (h : Rws W base u E) (hv : W.ownsRow b ty 1 v n xs) (hg : W.grownBy W' v.ownBlock) (h1 : 29 ≠ ty) (h2 : 9 ≠ ty) : Rws W' base u E :=
  ⟨h.own.kept hg (ownsRow_apart h.own hv h1), fun e he => (h.rows e he).kept hg (ownsRow_apart (h.rows e he) hv h2)⟩
theorem box2 (w : World) (a b : Value) : (w.alloc (.cells #[a, b] 32)).cell? ⟨w.heap.size, 0, none⟩ = some a ∧ (w.alloc (.cells #[a, b] 32)).cell? ⟨w.heap.size, 1, none⟩ = some b := by
  have h := new_cells w [a, b] 32
  have a0 := h 0 _ rfl
  have a1 := h 1 _ rfl
  rw [add_at] at a0 a1
  exact ⟨a0, a1⟩
/-- the box of a fault, all the while -/
structure Bx (w wr : World) : Prop where
  c0 : wr.cell? ⟨w.heap.size, 0, none⟩ = some (.int .i64 0)
  c1 : wr.cell? ⟨w.heap.size, 1, none⟩ = some (.int .i64 0)
  row : Row wr w.heap.size 32 2
  bel : Below w.heap.size w wr
  lt : w.heap.size + 1 ≤ wr.heap.size
theorem Bx.onto {w wr w' : World} (h : Bx w wr) (hb : Below wr.heap.size wr w') : Bx w w' :=
  ⟨keepCell hb h.c0, keepCell hb h.c1, h.row.onto (hb.block _ h.row.lt), vonto h.bel hb, Nat.le_trans h.lt hb.size⟩
theorem Bx.grown {w wr w' : World} {v : Value} (h : Bx w wr) (hg : wr.grownBy w' v.ownBlock) (hl : ∀ j, v.ownBlock = some j → w.heap.size + 1 ≤ j) : Bx w w' :=
  ⟨hg.cell h.c0 (fun e => by have h2 : w.heap.size + 1 ≤ w.heap.size := hl _ e.symm; omega), hg.cell h.c1 (fun e => by have h2 : w.heap.size + 1 ≤ w.heap.size := hl _ e.symm; omega), h.row.onto (hg.block _ h.row.lt (fun e => by have := hl _ e.symm; omega)), h.bel.grown hg h.bel.size (fun j hj => by have := hl j hj; omega), Nat.le_trans h.lt hg.size⟩
theorem bel_grown {w a c : World} {v : Value} (h : Below w.heap.size w a) (hg : a.grownBy c v.ownBlock) (hl : ∀ j, v.ownBlock = some j → w.heap.size ≤ j) : Below w.heap.size w c := h.grown hg h.size hl
set_option maxRecDepth 100000 in
set_option maxHeartbeats 16000000 in
theorem drows_any (t : ByteArray) (w : World) (hs : t.size ≤ 4096) :
    Calls Try.prog 10 #[.string t] w (Du t w (csvR fld1 t.data.toList)) := by
  obtain ⟨T, hT⟩ : ∃ T, t.data.toList = T := ⟨_, rfl⟩
  have HT := hid hT
  have hTl : T.length = t.size := by rw [← hT, size_list]
  have CV := hid (fun X => rvalid_any t X (by unfold maxLen; omega))
  rw [hT] at CV ⊢
  obtain ⟨R0, hR0⟩ : ∃ R0, csvR fld1 T = R0 := ⟨_, rfl⟩
  rw [hR0]
  unfold csvR at hR0
  rw [if_neg (by omega)] at hR0
  have HBX0 : Hid (Bx w (w.alloc (.cells #[.int .i64 0, .int .i64 0] 32))) := hid ⟨(box2 w _ _).1, (box2 w _ _).2, Row.new w #[.int .i64 0, .int .i64 0] _, valloc_bel (Below.refl _ _) _, by simp⟩
  obtain ⟨s0, si, sz0, sz1, sz2⟩ := info_parts Try.info_str
  obtain ⟨i0, ii, iz0, iz1, iz2⟩ := info_parts Try.info_int
  obtain ⟨r0, ri, rz0, rz1, rz2⟩ := info_parts Try.info_strs
  obtain ⟨p0, pi, pz0, pz1, pz2⟩ := info_parts Try.info_ints
  by_cases hv : pos T (vlk T) = T.length
  rotate_left
  · rw [if_neg hv] at hR0
    have hpl : pos T (vlk T) ≤ T.length := cvlk_in T
    rw [rv_no T hv] at CV
    have HP : Hid (t.size - (T.drop (pos T (vlk T))).length = pos T (vlk T)) := hid (by rw [List.length_drop]; omega)
    have HR := hid hR0.symm
    generalize pos T (vlk T) = pp at *
    have hpz : (0 : Int) ≤ (pp : Int) := by omega
    clear hv hR0 hT si sz0 sz1 sz2 ii iz0 iz1 iz2 ri rz0 rz1 rz2 pi pz0 pz1 pz2
    go_enter Try.func10, Try.ntmps10
    go_wp2_with fail
    go_at_call 17
    refine (CV.out _).mono ?_
    rintro e w1 ⟨rfl, hb1⟩
    have HBX := hid (HBX0.out.onto hb1)
    have c0 := HBX.out.c0
    have c1 := HBX.out.c1
    have cf := HBX.out.row.frozen
    clear hb1 CV HBX0
    go_wp2_with fail
    obtain ⟨q0, q1⟩ : ((w1.setCell ⟨w.heap.size, 0, none⟩ (.int .i64 3)).setCell ⟨w.heap.size, 1, none⟩ (.int .i64 (pp : Int))).cell? ⟨w.heap.size, 0, none⟩ = some (.int .i64 3) ∧ ((w1.setCell ⟨w.heap.size, 0, none⟩ (.int .i64 3)).setCell ⟨w.heap.size, 1, none⟩ (.int .i64 (pp : Int))).cell? ⟨w.heap.size, 1, none⟩ = some (.int .i64 (pp : Int)) := ⟨by rw [set_other _ _ _ _ _ _ (Or.inr (by omega))]; exact set_same HBX.out.row (by omega) _, set_same (HBX.out.row.set _ _) (by omega) _⟩
    refine bodyPost_ret (v := .tuple #[.slice none 0 0, .slice none 0 0, .agg #[.int .i64 3, .int .i64 (pp : Int)]]) (by simp [results, Try.results10, go_sem, q0, q1]) rfl ?_
    rw [HR.out]
    exact ⟨by rw [HP.out]; rfl, vset_bel (vset_bel HBX.out.bel (Nat.le_refl _)) (Nat.le_refl _)⟩
  rw [if_pos hv] at hR0
  rw [rv_yes T hv] at CV
  have HR := hid hR0.symm
  clear hv hR0 hT
  have HFAULT : Hid (∀ (W : World) (er : Nat) (ei : Int) (at_ : Nat) (r : List UInt8), Bx w W → R0 = .bad er r → ei = (er : Int) → t.size - r.length = at_ → Du t w R0 (.returned (.tuple #[.slice none 0 0, .slice none 0 0, .agg #[.int .i64 ei, .int .i64 (at_ : Int)]])) ((W.setCell ⟨w.heap.size, 0, none⟩ (.int .i64 ei)).setCell ⟨w.heap.size, 1, none⟩ (.int .i64 (at_ : Int))) ∧ ((W.setCell ⟨w.heap.size, 0, none⟩ (.int .i64 ei)).setCell ⟨w.heap.size, 1, none⟩ (.int .i64 (at_ : Int))).cell? ⟨w.heap.size, 0, none⟩ = some (.int .i64 ei) ∧ ((W.setCell ⟨w.heap.size, 0, none⟩ (.int .i64 ei)).setCell ⟨w.heap.size, 1, none⟩ (.int .i64 (at_ : Int))).cell? ⟨w.heap.size, 1, none⟩ = some (.int .i64 (at_ : Int))) := hid (fun W er ei at_ r hB hR he ha => by
    refine ⟨?_, by rw [set_other _ _ _ _ _ _ (Or.inr (by omega))]; exact set_same hB.row (by omega) _, set_same (hB.row.set _ _) (by omega) _⟩
    rw [hR]
    exact ⟨by rw [ha, he], vset_bel (vset_bel hB.bel (Nat.le_refl _)) (Nat.le_refl _)⟩)
  have CF := hid (fun k X h => rfield_any t k X h (by omega))
  have CE := hid (fun k X h => rend_any t k X h (by omega))
  rw [HT.out] at CF CE
  have HD := hid (fun k' (h : k' < t.size) => drop_cons t k' h)
  rw [HT.out] at HD
  go_enter Try.func10, Try.ntmps10
  go_wp2_with fail
  go_at_call 17
  refine (CV.out _).mono ?_
  rintro e w1 ⟨rfl, hb1⟩
  have HBX := hid (HBX0.out.onto hb1)
  clear hb1 CV HBX0
  go_upto_region 9 with fail
  go_loopg [6, 7, 8, 9, 10, 11, 12, 13, 14] t.size (fun gk v6 v7 v8 _ _ _ _ _ _ wr => ∃ (E : List (List (List UInt8) × Value)) (k g : Nat), v8 = .int .i64 (k : Int) ∧ k ≤ t.size ∧ t.size ≤ k + gk ∧ t.size - k < g ∧ E.length ≤ 513 ∧ Hid (Bx w wr) ∧ Hid (Rws wr (w.heap.size + 1) v6 E) ∧ Hid (∃ xs, wr.ownsRow (w.heap.size + 1) 44 1 v7 E.length xs) ∧ Hid (R0 = crdL fld1 g (E.map (·.1)) (T.drop k)))
  case atStart => exact ⟨[], 0, T.length + 1, rfl, by omega, by omega, by omega, by simp, HBX, hid ⟨World.ownsRow_nil _ _ _ _, by simp⟩, hid ⟨[], World.ownsRow_nil _ _ _ _⟩, HR⟩
  case round =>
    obtain ⟨E, k, g, rfl, hk, hg, hgf, hE, HB', HW', HP', HR'⟩ := hrel
    clear HR HBX
    obtain ⟨g1, rfl⟩ : ∃ g1, g = g1 + 1 := ⟨g - 1, by omega⟩
    obtain ⟨L, hL⟩ : ∃ L, T.drop k = L := ⟨_, rfl⟩
    have HL := hid hL
    have hLl : L.length = t.size - k := by rw [← hL, List.length_drop, hTl]
    rw [hL, crdL_step] at HR'
    clear hL
    obtain ⟨o6, c6, hv6⟩ := slice_shape HW'.out.own
    subst hv6
    obtain ⟨xs7, hp7⟩ := HP'.out
    obtain ⟨o7, c7, hv7⟩ := slice_shape hp7
    subst hv7
    have HP7 := hid hp7
    clear hp7 HP'
    have c0 := HB'.out.c0
    have c1 := HB'.out.c1
    have cf := HB'.out.row.frozen
    by_cases hlt : k < t.size
    rotate_left
    · rw [if_pos (List.eq_nil_of_length_eq_zero (by omega))] at HR'
      go_wp2_with fail
      obtain ⟨q0, q1⟩ : ((wr.setCell ⟨w.heap.size, 0, none⟩ (.int .i64 0)).setCell ⟨w.heap.size, 1, none⟩ (.int .i64 0)).cell? ⟨w.heap.size, 0, none⟩ = some (.int .i64 0) ∧ ((wr.setCell ⟨w.heap.size, 0, none⟩ (.int .i64 0)).setCell ⟨w.heap.size, 1, none⟩ (.int .i64 0)).cell? ⟨w.heap.size, 1, none⟩ = some (.int .i64 0) := ⟨by rw [set_other _ _ _ _ _ _ (Or.inr (by omega))]; exact set_same HB'.out.row (by omega) _, set_same (HB'.out.row.set _ _) (by omega) _⟩
      refine bodyPost_ret (v := .tuple #[.slice o6 E.length c6, .slice o7 E.length c7, .agg #[.int .i64 0, .int .i64 0]]) (by simp [results, Try.results10, go_sem, q0, q1]) rfl ?_
      rw [HR'.out]
      exact ⟨_, _, _, _, _, _, E, rfl, rfl, ((HW'.out.set (Nat.lt_succ_self _)).set (Nat.lt_succ_self _)).mono (by omega), vset_bel (vset_bel HB'.out.bel (Nat.le_refl _)) (Nat.le_refl _)⟩
    rw [if_neg (by intro e; rw [e] at hLl; simp at hLl; omega)] at HR'
    by_cases h513 : (E.map (·.1)).length = 513
    · rw [if_pos h513] at HR'
      have hE5 : (512 : Int) < (E.length : Int) := by rw [List.length_map] at h513; omega
      obtain ⟨f1, f2, f3⟩ := HFAULT.out wr 2 2 k L HB'.out HR'.out rfl (by omega)
      have F1 := hid f1
      have F2 := hid f2
      have F3 := hid f3
      have c0 := HB'.out.c0
      have c1 := HB'.out.c1
      have cf := HB'.out.row.frozen
      clear h513 f1 f2 f3
      go_wp2_with fail
      have f2 := F2.out
      have f3 := F3.out
      exact bodyPost_ret (v := .tuple #[.slice none 0 0, .slice none 0 0, .agg #[.int .i64 2, .int .i64 (k : Nat)]]) (by simp [results, Try.results10, go_sem, f2, f3]) rfl F1.out
    rw [if_neg h513] at HR'
    have hE5 : ¬ (512 : Int) < (E.length : Int) := by rw [List.length_map] at h513; omega
    have hE2 : E.length ≤ 512 := by rw [List.length_map] at h513; omega
    obtain ⟨RW, hRW⟩ : ∃ RW, crwF fld1 L = RW := ⟨_, rfl⟩
    rw [hRW] at HR'
    have HRW : Hid (RW = crwS fld1 (L.length + 1) [] (T.drop k)) := hid (by rw [HL.out, ← hRW]; exact crwF_s fld1 fld1_suf _ L (by omega))
    have HTL : Hid (∀ fs r, RW = .ok fs r → (∃ p, L = p ++ r) ∧ r.length < L.length) := hid (fun fs r h => by
      obtain ⟨h1, h2⟩ := crwF_tail fld1 fld1_suf L fs r (hRW.trans h)
      exact ⟨h1, h2 (by intro e; rw [e] at hLl; simp at hLl; omega)⟩)
    clear h513 hRW c0 c1 cf
    have hwz := HB'.out.lt
    generalize wr = wo at *
    generalize gk = G at *
    go_upto_region 15 with fail
    go_loopg [8, 10, 11, 12, 13, 14] (t.size + 1) (fun gi v8 v10 v11 _ _ _ wr => ∃ (fs : List (List UInt8)) (k' g : Nat), v8 = .int .i64 (k' : Int) ∧ k' ≤ t.size ∧ k ≤ k' ∧ t.size + 1 ≤ k' + gi ∧ t.size - k' < g ∧ fs.length ≤ 64 ∧ Hid (Below wo.heap.size wo wr) ∧ Hid (wr.ownsRow wo.heap.size 9 1 v10 fs.length (fvs fs)) ∧ Hid (∃ ys, wr.ownsRow wo.heap.size 3 1 v11 fs.length ys) ∧ Hid (RW = crwS fld1 g fs (T.drop k')))
    case atStart => exact ⟨[], k, L.length + 1, rfl, hk, Nat.le_refl _, by omega, by omega, by simp, hid (Below.refl _ _), hid (World.ownsRow_nil _ _ _ _), hid ⟨[], World.ownsRow_nil _ _ _ _⟩, HRW⟩
    case round =>
      obtain ⟨fs, k', g2, rfl, hk', hkk, hgi, hg2, hf64, HBi, HRi, HQi, HWi⟩ := hrel
      clear HRW
      obtain ⟨g3, rfl⟩ : ∃ g3, g2 = g3 + 1 := ⟨g2 - 1, by omega⟩
      obtain ⟨o10, c10, hv10⟩ := slice_shape HRi.out
      subst hv10
      obtain ⟨ys, hq⟩ := HQi.out
      obtain ⟨o11, c11, hv11⟩ := slice_shape hq
      subst hv11
      have HQ := hid hq
      clear hq HQi
      have hbz := HBi.out.size
      unfold crwS at HWi
      by_cases h64 : fs.length = 64
      · rw [if_pos h64] at HWi
        have h64z : (64 : Int) ≤ (fs.length : Int) := by omega
        have HBX2 := hid (HB'.out.onto HBi.out)
        have HRB : Hid (R0 = .bad 2 (T.drop k')) := hid (by rw [HR'.out, HWi.out])
        clear h64
        obtain ⟨f1, f2, f3⟩ := HFAULT.out wr 2 2 k' (T.drop k') HBX2.out HRB.out rfl (by rw [List.length_drop]; omega)
        have F1 := hid f1
        have F2 := hid f2
        have F3 := hid f3
        have c0 := HBX2.out.c0
        have c1 := HBX2.out.c1
        have cf := HBX2.out.row.frozen
        clear f1 f2 f3
        go_wp2_with fail
        have f2 := F2.out
        have f3 := F3.out
        exact bodyPost_ret (v := .tuple #[.slice none 0 0, .slice none 0 0, .agg #[.int .i64 2, .int .i64 (k' : Nat)]]) (by simp [results, Try.results10, go_sem, f2, f3]) rfl F1.out
      rw [if_neg h64] at HWi
      have h64z : ¬ (64 : Int) ≤ (fs.length : Int) := by omega
      have C := hid (fun X => CF.out k' X hk')
      cases hf : fld1 (T.drop k') with
      | bad er r =>
        rw [hf] at HWi C
        simp only at HWi
        have her : er = 4 := ((fld1_tail _).2 er r hf).1
        have HBX2 := hid (HB'.out.onto HBi.out)
        have HRB : Hid (R0 = .bad 4 r) := hid (by rw [HR'.out, HWi.out, her])
        simp only [fvR] at C
        obtain ⟨at_, hat⟩ : ∃ a, t.size - r.length = a := ⟨_, rfl⟩
        have hat0 : (0 : Int) ≤ (at_ : Int) := by omega
        have HAT := hid hat
        rw [hat] at C
        clear hf h64 hat her
        obtain ⟨f1, f2, f3⟩ := HFAULT.out wr 4 4 at_ r HBX2.out HRB.out rfl (HAT.out)
        have F1 := hid f1
        have F2 := hid f2
        have F3 := hid f3
        have c0 := HBX2.out.c0
        have c1 := HBX2.out.c1
        have cf := HBX2.out.row.frozen
        clear f1 f2 f3
        go_wp2_with (go_at_call 18; go_must (refine (C.out _).mono ?_; rintro e w3 ⟨rfl, hw3⟩; obtain rfl := hw3.symm))
        have f2 := F2.out
        have f3 := F3.out
        exact bodyPost_ret (v := .tuple #[.slice none 0 0, .slice none 0 0, .agg #[.int .i64 4, .int .i64 (at_ : Nat)]]) (by simp [results, Try.results10, go_sem, f2, f3]) rfl F1.out
      | ok s r =>
        rw [hf] at HWi C
        simp only at HWi
        simp only [fvR] at C
        obtain ⟨p, hpr⟩ := fld1_suf _ _ _ hf
        have hdl : (T.drop k').length = t.size - k' := by rw [List.length_drop, hTl]
        have hrl : r.length ≤ t.size - k' := by
          have := congrArg List.length hpr
          rw [List.length_append] at this; omega
        have hsl : s.length ≤ 4096 := by have := fld1_len _ _ _ hf; omega
        have hend := fld1_end _ _ _ hf
        obtain ⟨k2, hk2⟩ : ∃ a, t.size - r.length = a := ⟨_, rfl⟩
        have hk2s : k2 ≤ t.size := by omega
        have hk2g : k' ≤ k2 := by omega
        have HDR : Hid (T.drop k2 = r) := hid (by rw [← hk2, ← hTl]; exact drop_pos rfl (by omega) p r hpr)
        have hrl2 : r.length = t.size - k2 := by omega
        rw [hk2] at C
        have hmz : (mkS s).size = s.length := mkS_size s
        obtain ⟨m, hm⟩ : ∃ m, mkS s = m := ⟨_, rfl⟩
        have HM := hid hm
        rw [hm] at C hmz
        have hmz4 : ¬ (4096 : Int) < (m.size : Int) := by omega
        clear hf hpr hk2 hm hdl hmz
        go_upto_region 23 with (first | (go_at_call 18; go_must (refine (C.out _).mono ?_; rintro e w3 ⟨rfl, hw3⟩; obtain rfl := hw3.symm)) | (at_builtin; go_must (refine wpList_append_own _ rfl (.tmp 58) (.tmp 60) 29 rfl wo.heap.size 9 s0 (.string ⟨#[]⟩) 1 16 Try.underlying29 si sz0 sz1 sz2 rfl (by decide) _ fs.length _ rfl (HRi.out.alloc _) ⟨wr.heap.size, 0, none⟩ 1 1 [.string m] rfl rfl (new_cells wr _ 9) (by simp [Value.oneCell']) (by unfold maxLen; omega) (by omega) (by simp; omega) ?_; intro v4 w4 hown hgr _)))
        have HB3 := hid (bel_grown (valloc_bel HBi.out _) hgr (fun j hj => (HRi.out.lt j hj).1))
        have HR3 : Hid (w4.ownsRow wo.heap.size 9 1 v4 (fs ++ [s]).length (fvs (fs ++ [s]))) := hid (by
          rw [List.length_append]
          unfold fvs at hown ⊢
          rw [List.map_append]
          show w4.ownsRow _ _ _ _ _ (_ ++ [.string (mkS s)])
          rw [HM.out]; exact hown)
        have HQ3 := hid ((HQ.out.alloc (.cells #[.string m] 9)).kept hgr (ownsRow_apart (w := wr.alloc (.cells #[.string m] 9)) (HQ.out.alloc _) (HRi.out.alloc _) (by decide)))
        clear hown hgr HBi HRi HQ
        have hbz3 := HB3.out.size
        go_upto_region 24 with (at_builtin; go_must (refine wpList_append_own _ rfl (.tmp 62) (.tmp 64) 44 rfl wo.heap.size 3 i0 (.int .i64 0) 1 8 Try.underlying44 ii iz0 iz1 iz2 rfl (by decide) _ fs.length _ rfl (HQ3.out.alloc _) ⟨w4.heap.size, 0, none⟩ 1 1 [.int .i64 (k' : Int)] rfl rfl (new_cells w4 _ 3) (by simp [Value.oneCell']) (by unfold maxLen; omega) (by omega) (by simp; omega) ?_; intro v5 w5 hown hgr _))
        have HB4 := hid (bel_grown (valloc_bel HB3.out _) hgr (fun j hj => (HQ3.out.lt j hj).1))
        have HR4 := hid ((HR3.out.alloc (.cells #[.int .i64 (k' : Int)] 3)).kept hgr (ownsRow_apart (w := w4.alloc (.cells #[.int .i64 (k' : Int)] 3)) (HR3.out.alloc _) (HQ3.out.alloc _) (by decide)))
        have HQ4 := hid hown
        have hv5s : ∃ o n c, v5 = .slice o n c := by obtain ⟨o, c, h⟩ := slice_shape hown; exact ⟨_, _, _, h⟩
        have hfl : (fs ++ [s]).length = fs.length + 1 := by simp
        obtain ⟨o4, c4, hv4⟩ := slice_shape HR4.out
        subst hv4
        clear hown hgr HB3 HR3 HQ3
        rw [crwL_s] at HWi
        by_cases hc44 : r.head? = some 44
        · rw [if_pos hc44] at HWi
          have hr0 : 0 < r.length := by cases r with | nil => simp at hc44 | cons a l => simp
          have hk2l : k2 < t.size := by omega
          have hd := HD.out k2 hk2l
          have hch : t[k2].toNat = 44 := by rw [HDR.out] at hd; rw [hd] at hc44; simp at hc44; rw [hc44]; rfl
          have hchb : ((t[k2].toNat : Int) != 44) = false := by rw [hch]; rfl
          have hkz : ¬ (t.size : Int) ≤ (k2 : Int) := by omega
          have HT1 : Hid (T.drop (k2 + 1) = r.tail) := hid (by rw [← List.drop_drop, HDR.out]; simp)
          obtain ⟨gi', rfl⟩ : ∃ gi', gk = gi' + 1 := ⟨gk - 1, by omega⟩
          clear hd hch hc44
          go_wp2_with fail
          go_roundg gi'
          case measure => omega
          case rel => exact ⟨fs ++ [s], k2 + 1, g3, by go_num, by omega, by omega, by omega, by omega, by omega, HB4, hid (by have h := HR4.out; rw [hfl] at h ⊢; exact h), hid ⟨_, by rw [hfl]; exact HQ4.out⟩, hid (by rw [HT1.out]; exact HWi.out)⟩
        · rw [if_neg hc44, if_pos (hend.resolve_left hc44)] at HWi
          obtain ⟨⟨p2, hp2⟩, hprog⟩ := HTL.out _ _ HWi.out
          have CN := hid (fun X => CE.out k2 X hk2s)
          rw [HDR.out] at CN
          have hen2 := endN_le r
          have hcond : (t.size ≤ k2) ∨ ∃ h : k2 < t.size, ¬ t[k2].toNat = 44 := by
            by_cases h : k2 < t.size
            · right
              refine ⟨h, fun e => hc44 ?_⟩
              have hd := HD.out k2 h
              rw [HDR.out] at hd
              rw [hd]; simp; exact UInt8.toNat_inj.1 e
            · left; omega
          obtain ⟨z, hz⟩ : ∃ z, endN r = z := ⟨_, rfl⟩
          have HZ := hid hz
          rw [hz] at CN hen2
          have hdz : (r.drop (endN r)).length = r.length - z := by rw [List.length_drop, hz]
          have HDE : Hid (T.drop (k2 + z) = r.drop (endN r)) := hid (by rw [hz, ← List.drop_drop, HDR.out])
          have hkz2 : k < k2 + z := by rw [hdz] at hprog; omega
          have hkz3 : k2 + z ≤ t.size := by omega
          rw [HWi.out] at HR'
          simp only at HR'
          have HRR : Hid (w5.ownsRow (w.heap.size + 1) 9 1 (.slice o4 (fs ++ [s]).length c4) (fs ++ [s]).length (fvs (fs ++ [s]))) := hid (ownsRow_mono HR4.out hwz)
          have HB5 := hid (HB'.out.onto HB4.out)
          have HW5 := hid (HW'.out.onto HB4.out)
          have HP5 := hid (ownsRow_below HP7.out HB4.out)
          have hz5 := HB5.out.lt
          obtain ⟨g', rfl⟩ : ∃ g', G = g' + 1 := ⟨G - 1, by omega⟩
          clear hc44 hz hprog hp2 HWi HQ4 hend HTL
          obtain ⟨FS, hFS⟩ : ∃ FS, fs ++ [s] = FS := ⟨_, rfl⟩
          rw [hFS] at HRR HR' hfl ⊢
          have hFl : FS.length ≤ 65 := by omega
          clear hfl HR4 hFS
          have APP : Hid (∀ (q : World) (u' : Value), q.ownsRow (w.heap.size + 1) 29 1 u' (E.length + 1) (E.map (·.2) ++ [.slice o4 FS.length c4]) → (w5.alloc (.cells #[.slice o4 FS.length c4] 29)).grownBy q (Value.slice o6 E.length c6).ownBlock → Bx w q ∧ Rws q (w.heap.size + 1) u' (E ++ [(FS, .slice o4 FS.length c4)]) ∧ q.ownsRow (w.heap.size + 1) 44 1 (.slice o7 E.length c7) E.length xs7) := hid (fun q u' h1 h2 => by
            have hb3 := valloc_bel (Below.refl w5.heap.size w5) (.cells #[.slice o4 FS.length c4] 29)
            have hlt : ∀ j, (Value.slice o6 E.length c6).ownBlock = some j → w.heap.size + 1 ≤ j := fun j hj => (HW5.out.own.lt j hj).1
            exact ⟨(HB5.out.onto hb3).grown h2 hlt, (HW5.out.onto hb3).more (ownsRow_below HRR.out hb3) h1 h2, (ownsRow_below HP5.out hb3).kept h2 (ownsRow_apart (w := w5.alloc (.cells #[.slice o4 FS.length c4] 29)) (ownsRow_below HP5.out hb3) (HW5.out.onto hb3).own (by decide))⟩)
          have APQ : Hid (∀ (q q' : World) (u' v' : Value) (E' : List (List (List UInt8) × Value)) (y : Value), Bx w q → Rws q (w.heap.size + 1) u' E' → q.ownsRow (w.heap.size + 1) 44 1 (.slice o7 E.length c7) E.length xs7 → (q.alloc (.cells #[y] 44)).grownBy q' (Value.slice o7 E.length c7).ownBlock → Bx w q' ∧ Rws q' (w.heap.size + 1) u' E') := hid (fun q q' u' v' E' y hb hr ho hg => by
            have hb3 := valloc_bel (Below.refl q.heap.size q) (.cells #[y] 44)
            exact ⟨(hb.onto hb3).grown hg (fun j hj => (ho.lt j hj).1), (hr.onto hb3).kept (ownsRow_below ho hb3) hg (by decide) (by decide)⟩)
          obtain ⟨ov, nv, cv, hv5⟩ : ∃ o n c, v5 = .slice o n c := hv5s
          subst hv5
          rcases hcond with hcz | ⟨hcl, hch⟩
          · have hkz : (t.size : Int) ≤ (k2 : Int) := by omega
            cases E with
            | nil =>
              rw [if_neg (by simp)] at HR'
              go_upto_region 31 with (first | (go_at_call 19; go_must (refine (CN.out _).mono ?_; rintro e w6 ⟨rfl, hw6⟩; obtain rfl := hw6.symm)) | (at_builtin; go_must (refine wpList_append_own _ rfl (.tmp 98) (.tmp 100) 23 rfl (w.heap.size + 1) 29 r0 (.slice none 0 0) 1 24 Try.underlying23 ri rz0 rz1 rz2 rfl (by decide) _ 0 _ rfl (HW5.out.own.alloc _) ⟨w5.heap.size, 0, none⟩ 1 1 [.slice o4 FS.length c4] rfl rfl (new_cells w5 _ 29) (by simp [Value.oneCell']) (by unfold maxLen; omega) (by omega) (by simp; omega) ?_; intro v8 w8 hown hgr _)))
              obtain ⟨q1, q2, q3⟩ := APP.out w8 v8 hown hgr
              have Q1 := hid q1
              have Q2 := hid q2
              have Q3 := hid q3
              have hz8 := q1.lt
              clear hown hgr q1 q2 q3
              go_wp2_with (at_builtin; go_must (refine wpList_append_own _ rfl (.tmp 102) (.tmp 104) 30 rfl (w.heap.size + 1) 44 p0 (.slice none 0 0) 1 24 Try.underlying30 pi pz0 pz1 pz2 rfl (by decide) _ 0 _ rfl (Q3.out.alloc _) ⟨w8.heap.size, 0, none⟩ 1 1 [.slice ov nv cv] rfl rfl (new_cells w8 _ 44) (by simp [Value.oneCell']) (by unfold maxLen; omega) (by omega) (by simp; omega) ?_; intro v9 w9 hown9 hgr9 _))
              obtain ⟨u1, u2⟩ := APQ.out w8 w9 v8 v9 _ _ Q1.out Q2.out Q3.out hgr9
              have U1 := hid u1
              have U2 := hid u2
              have U3 := hid hown9
              clear u1 u2 hown9 hgr9
              go_roundg g'
              case measure => omega
              case rel => exact ⟨_, k2 + z, g1, by go_num, by omega, by omega, by omega, by simp; try omega, U1, U2, hid ⟨_, by first | exact U3.out | simpa using U3.out⟩, hid (by rw [HDE.out]; exact HR'.out)⟩
            | cons e0 E' =>
              obtain ⟨g0, o', c', ho6, hn6, hnc, hcell⟩ := head_cell HW5.out
              simp only [List.length_cons] at hE2
              have hlen : (0 : Int) < ((e0 :: E').length : Int) := by simp
              by_cases hne : FS.length = e0.1.length
              · rw [if_neg (fun h => h.2 hne)] at HR'
                have hneb : ((FS.length : Int) != (e0.1.length : Int)) = false := by rw [bne_eq_false_iff_eq]; omega
                clear hne
                subst ho6
                go_upto_region 31 with (first | (go_at_call 19; go_must (refine (CN.out _).mono ?_; rintro e w6 ⟨rfl, hw6⟩; obtain rfl := hw6.symm)) | (at_builtin; go_must (refine wpList_append_own _ rfl (.tmp 98) (.tmp 100) 23 rfl (w.heap.size + 1) 29 r0 (.slice none 0 0) 1 24 Try.underlying23 ri rz0 rz1 rz2 rfl (by decide) _ (e0 :: E').length _ rfl (HW5.out.own.alloc _) ⟨w5.heap.size, 0, none⟩ 1 1 [.slice o4 FS.length c4] rfl rfl (new_cells w5 _ 29) (by simp [Value.oneCell']) (by unfold maxLen; simp only [List.length_cons]; omega) (by simp only [List.length_cons]; omega) (by simp; omega) ?_; intro v8 w8 hown hgr _)))
                obtain ⟨q1, q2, q3⟩ := APP.out w8 v8 hown hgr
                have Q1 := hid q1
                have Q2 := hid q2
                have Q3 := hid q3
                have hz8 := q1.lt
                clear hown hgr q1 q2 q3
                go_wp2_with (at_builtin; go_must (refine wpList_append_own _ rfl (.tmp 102) (.tmp 104) 30 rfl (w.heap.size + 1) 44 p0 (.slice none 0 0) 1 24 Try.underlying30 pi pz0 pz1 pz2 rfl (by decide) _ (e0 :: E').length _ rfl (Q3.out.alloc _) ⟨w8.heap.size, 0, none⟩ 1 1 [.slice ov nv cv] rfl rfl (new_cells w8 _ 44) (by simp [Value.oneCell']) (by unfold maxLen; simp only [List.length_cons]; omega) (by simp only [List.length_cons]; omega) (by simp; omega) ?_; intro v9 w9 hown9 hgr9 _))
                obtain ⟨u1, u2⟩ := APQ.out w8 w9 v8 v9 _ _ Q1.out Q2.out Q3.out hgr9
                have U1 := hid u1
                have U2 := hid u2
                have U3 := hid hown9
                clear u1 u2 hown9 hgr9
                go_roundg g'
                case measure => omega
                case rel => exact ⟨_, k2 + z, g1, by go_num, by omega, by omega, by omega, by simp; try omega, U1, U2, hid ⟨_, by first | exact U3.out | simpa using U3.out⟩, hid (by rw [HDE.out]; rw [List.map_append]; exact HR'.out)⟩
              · rw [if_pos ⟨by simp, hne⟩] at HR'
                have hneb : ((FS.length : Int) != (e0.1.length : Int)) = true := by rw [bne_iff_ne]; omega
                subst ho6
                clear hne
                obtain ⟨f1, f2, f3⟩ := HFAULT.out w5 7 7 k L HB5.out HR'.out rfl (by omega)
                have F1 := hid f1
                have F2 := hid f2
                have F3 := hid f3
                have c0 := HB5.out.c0
                have c1 := HB5.out.c1
                have cf := HB5.out.row.frozen
                clear f1 f2 f3
                go_wp2_with (go_at_call 19; go_must (refine (CN.out _).mono ?_; rintro e w6 ⟨rfl, hw6⟩; obtain rfl := hw6.symm))
                have f2 := F2.out
                have f3 := F3.out
                exact bodyPost_ret (v := .tuple #[.slice none 0 0, .slice none 0 0, .agg #[.int .i64 7, .int .i64 (k : Nat)]]) (by simp [results, Try.results10, go_sem, f2, f3]) rfl F1.out
          · have hkz : ¬ (t.size : Int) ≤ (k2 : Int) := by omega
            have hchb : ((t[k2].toNat : Int) != 44) = true := by rw [bne_iff_ne]; omega
            clear hch
            cases E with
            | nil =>
              rw [if_neg (by simp)] at HR'
              go_upto_region 31 with (first | (go_at_call 19; go_must (refine (CN.out _).mono ?_; rintro e w6 ⟨rfl, hw6⟩; obtain rfl := hw6.symm)) | (at_builtin; go_must (refine wpList_append_own _ rfl (.tmp 98) (.tmp 100) 23 rfl (w.heap.size + 1) 29 r0 (.slice none 0 0) 1 24 Try.underlying23 ri rz0 rz1 rz2 rfl (by decide) _ 0 _ rfl (HW5.out.own.alloc _) ⟨w5.heap.size, 0, none⟩ 1 1 [.slice o4 FS.length c4] rfl rfl (new_cells w5 _ 29) (by simp [Value.oneCell']) (by unfold maxLen; omega) (by omega) (by simp; omega) ?_; intro v8 w8 hown hgr _)))
              obtain ⟨q1, q2, q3⟩ := APP.out w8 v8 hown hgr
              have Q1 := hid q1
              have Q2 := hid q2
              have Q3 := hid q3
              have hz8 := q1.lt
              clear hown hgr q1 q2 q3
              go_wp2_with (at_builtin; go_must (refine wpList_append_own _ rfl (.tmp 102) (.tmp 104) 30 rfl (w.heap.size + 1) 44 p0 (.slice none 0 0) 1 24 Try.underlying30 pi pz0 pz1 pz2 rfl (by decide) _ 0 _ rfl (Q3.out.alloc _) ⟨w8.heap.size, 0, none⟩ 1 1 [.slice ov nv cv] rfl rfl (new_cells w8 _ 44) (by simp [Value.oneCell']) (by unfold maxLen; omega) (by omega) (by simp; omega) ?_; intro v9 w9 hown9 hgr9 _))
              obtain ⟨u1, u2⟩ := APQ.out w8 w9 v8 v9 _ _ Q1.out Q2.out Q3.out hgr9
              have U1 := hid u1
              have U2 := hid u2
              have U3 := hid hown9
              clear u1 u2 hown9 hgr9
              go_roundg g'
              case measure => omega
              case rel => exact ⟨_, k2 + z, g1, by go_num, by omega, by omega, by omega, by simp; try omega, U1, U2, hid ⟨_, by first | exact U3.out | simpa using U3.out⟩, hid (by rw [HDE.out]; exact HR'.out)⟩
            | cons e0 E' =>
              obtain ⟨g0, o', c', ho6, hn6, hnc, hcell⟩ := head_cell HW5.out
              simp only [List.length_cons] at hE2
              have hlen : (0 : Int) < ((e0 :: E').length : Int) := by simp
              by_cases hne : FS.length = e0.1.length
              · rw [if_neg (fun h => h.2 hne)] at HR'
                have hneb : ((FS.length : Int) != (e0.1.length : Int)) = false := by rw [bne_eq_false_iff_eq]; omega
                clear hne
                subst ho6
                go_upto_region 31 with (first | (go_at_call 19; go_must (refine (CN.out _).mono ?_; rintro e w6 ⟨rfl, hw6⟩; obtain rfl := hw6.symm)) | (at_builtin; go_must (refine wpList_append_own _ rfl (.tmp 98) (.tmp 100) 23 rfl (w.heap.size + 1) 29 r0 (.slice none 0 0) 1 24 Try.underlying23 ri rz0 rz1 rz2 rfl (by decide) _ (e0 :: E').length _ rfl (HW5.out.own.alloc _) ⟨w5.heap.size, 0, none⟩ 1 1 [.slice o4 FS.length c4] rfl rfl (new_cells w5 _ 29) (by simp [Value.oneCell']) (by unfold maxLen; simp only [List.length_cons]; omega) (by simp only [List.length_cons]; omega) (by simp; omega) ?_; intro v8 w8 hown hgr _)))
                obtain ⟨q1, q2, q3⟩ := APP.out w8 v8 hown hgr
                have Q1 := hid q1
                have Q2 := hid q2
                have Q3 := hid q3
                have hz8 := q1.lt
                clear hown hgr q1 q2 q3
                go_wp2_with (at_builtin; go_must (refine wpList_append_own _ rfl (.tmp 102) (.tmp 104) 30 rfl (w.heap.size + 1) 44 p0 (.slice none 0 0) 1 24 Try.underlying30 pi pz0 pz1 pz2 rfl (by decide) _ (e0 :: E').length _ rfl (Q3.out.alloc _) ⟨w8.heap.size, 0, none⟩ 1 1 [.slice ov nv cv] rfl rfl (new_cells w8 _ 44) (by simp [Value.oneCell']) (by unfold maxLen; simp only [List.length_cons]; omega) (by simp only [List.length_cons]; omega) (by simp; omega) ?_; intro v9 w9 hown9 hgr9 _))
                obtain ⟨u1, u2⟩ := APQ.out w8 w9 v8 v9 _ _ Q1.out Q2.out Q3.out hgr9
                have U1 := hid u1
                have U2 := hid u2
                have U3 := hid hown9
                clear u1 u2 hown9 hgr9
                go_roundg g'
                case measure => omega
                case rel => exact ⟨_, k2 + z, g1, by go_num, by omega, by omega, by omega, by simp; try omega, U1, U2, hid ⟨_, by first | exact U3.out | simpa using U3.out⟩, hid (by rw [HDE.out]; rw [List.map_append]; exact HR'.out)⟩
              · rw [if_pos ⟨by simp, hne⟩] at HR'
                have hneb : ((FS.length : Int) != (e0.1.length : Int)) = true := by rw [bne_iff_ne]; omega
                subst ho6
                clear hne
                obtain ⟨f1, f2, f3⟩ := HFAULT.out w5 7 7 k L HB5.out HR'.out rfl (by omega)
                have F1 := hid f1
                have F2 := hid f2
                have F3 := hid f3
                have c0 := HB5.out.c0
                have c1 := HB5.out.c1
                have cf := HB5.out.row.frozen
                clear f1 f2 f3
                go_wp2_with (go_at_call 19; go_must (refine (CN.out _).mono ?_; rintro e w6 ⟨rfl, hw6⟩; obtain rfl := hw6.symm))
                have f2 := F2.out
                have f3 := F3.out
                exact bodyPost_ret (v := .tuple #[.slice none 0 0, .slice none 0 0, .agg #[.int .i64 7, .int .i64 (k : Nat)]]) (by simp [results, Try.results10, go_sem, f2, f3]) rfl F1.out
end Go.Proofs.Ytapclgjaalammaa
