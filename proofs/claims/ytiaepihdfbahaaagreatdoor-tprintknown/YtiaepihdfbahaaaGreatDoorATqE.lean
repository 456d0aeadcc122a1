/- The program's printer of TOML: the parts of a list or a map, over any closure. -/
import Derived.Test.YtiaepihdfbahaaaGreatDoorATqC
/- The program's printer of TOML: a pair; the closures that write a list's part, and a map's. -/
namespace Go.Proofs.YtiaepihdfbahaaaGreatDoor
open Go.RowKit

theorem Tr.drew {w : World} {b : Nat} {l : List UInt8} (h : Tr w b l) : Tr w.drew b l := h
theorem Tr.lt {w : World} {b : Nat} {l : List UInt8} (h : Tr w b l) : b < w.heap.size := by
  obtain ⟨p, v, hb, -, -⟩ := h
  exact theap_lt hb
theorem Tr.on {w w' : World} {b : Nat} {l : List UInt8} (h : Tr w b l) (hb : Below w.heap.size w w') : Tr w' b l := by
  obtain ⟨p, v, hb', hp, hv⟩ := h
  exact ⟨p, v, (hb.block b (theap_lt hb')).trans hb', hp, ownsRow_below hv hb⟩
theorem Kt.of {b : Nat} {w w' : World} (hb : Below w.heap.size w w') (hlt : b ≤ w.heap.size) : Kt b w w' :=
  ⟨hb.mono hlt, fun k _ hk _ _ => (hb.block k (theap_lt hk)).trans hk, hb.size⟩
theorem Kt.drew {b : Nat} (w : World) : Kt b w w.drew := ⟨(Below.refl _ _).drew, Lib.OthersKept.refl _ _ _, Nat.le_refl _⟩
theorem Kt.cellk {b : Nat} {w X : World} (h : Kt b w X) {k j : Nat} {cs : Array Value} {t : TypeId} {fz : Nat × Nat} {v : Value} (hk : w.heap[k]? = some (.cells cs t fz)) (hne : k ≠ b) (ht : t ≠ 5) (hv : cs[j]? = some v) : X.cell? ⟨k, j, none⟩ = some v := by
  have := h.2.1 k _ hk (fun e => hne (Option.some.inj e)) (fun c fz e => by injection e with _ e2 _; exact ht e2)
  rw [tcell_heap this]; exact hv
/-- what a part's writing leaves -/
def Wt (b : Nat) (l : List UInt8) (w : World) (e : Ending) (w' : World) : Prop := e = .returned (.tuple #[]) ∧ Tr w' b l ∧ Kt b w w'
/-- what is written of so many parts -/
def tptB (G : Nat → List UInt8) : Nat → List UInt8
  | 0 => []
  | j + 1 => tptB G j ++ (coB (decide (j = 0)) ++ G j)
theorem tptB_mono {G : Nat → List UInt8} {i j : Nat} (h : i ≤ j) : (tptB G i).length ≤ (tptB G j).length := by
  induction h with
  | refl => exact Nat.le_refl _
  | step _ ih => rw [tptB, List.length_append]; omega
set_option maxRecDepth 100000 in
set_option maxHeartbeats 4000000 in
theorem tparts_any (F : Nat) (caps : Array Value) (b : Nat) (o c : UInt8) (N : Nat) (G : Nat → List UInt8) (l : List UInt8) (w : World)
    (eF : ∀ args w, (callFunc F args).run Tryz.prog w = .ok (.enter F args) w)
    (hF : ∀ (j : Nat) (l' : List UInt8) (X : World), j < N → Kt b w X → Tr X b l' → l'.length ≤ l.length + (tptB G N).length + 30000 → Calls Tryz.prog F (#[.int .i64 (j : Int)] ++ caps) X (Wt b (l' ++ G j) X))
    (h : Tr w b l) (hN : N ≤ 1000000) (hl : l.length + 1 + (tptB G N).length ≤ 400000000000) :
    Calls Tryz.prog 75 #[.pointer (some ⟨b, 0, none⟩), .string ⟨#[o]⟩, .string ⟨#[c]⟩, .int .i64 (N : Int), .func (.func F) #[] caps] w (Wt b (l ++ (o :: (tptB G N ++ [c]))) w) := by
  have HF := hid hF
  have HP := hid h
  have HLE : Hid (∀ j, j ≤ N → (tptB G j).length ≤ (tptB G N).length) := fun j hj => tptB_mono hj
  have CW := hid (fun (m : ByteArray) (l' : List UInt8) X (hm : m.size ≤ 2) (hX : Tr X b l') (hl' : l'.length ≤ 500000000000) => twrite_any b l' m X hX (by omega))
  clear hF h
  go_enter Tryz.func75, Tryz.ntmps75
  go_wp2_with fail
  go_at_call 31
  refine (CW.out ⟨#[o]⟩ l _ (by show 1 ≤ 2; omega) HP.out (by omega)).mono ?_
  rintro e w1 ⟨rfl, hp1, hk1⟩
  have HP1 := hid hp1
  have HK1 := hid hk1
  clear hp1 hk1
  go_wp2_with fail
  go_loopw [10, 17] (fun _ iv wr => ∃ j : Nat, j ≤ N ∧ iv = .int .i64 j ∧ Hid (Tr wr b (l ++ (o :: tptB G j))) ∧ Hid (Kt b w wr)) (fun _ iv _ => N - (intOf iv).toNat)
  case atStart => exact ⟨0, Nat.zero_le _, rfl, HP1, HK1⟩
  case round =>
    obtain ⟨j, hj, rfl, HPJ, HKJ⟩ := hrel
    have hlj := HLE.out j hj
    have hpl : (l ++ (o :: tptB G j)).length = l.length + 1 + (tptB G j).length := by rw [List.length_append, List.length_cons]; omega
    by_cases hlt : j < N
    · have HNX : Hid (∀ A : List UInt8, A = l ++ (o :: tptB G j) → A ++ coB (decide (j = 0)) ++ G j = l ++ (o :: tptB G (j + 1))) := fun A hA => by rw [hA, tptB]; simp
      by_cases h0 : j = 0
      · subst h0
        have CF := hid (HF.out 0 _ wr hlt HKJ.out HPJ.out (by omega))
        go_wp2_with fail
        refine CF.out.mono ?_
        rintro e w3 ⟨rfl, hp3, hk3⟩
        have HP3 := hid hp3
        have HK3 := hid (HKJ.out.trans hk3)
        clear hp3 hk3 CF
        go_wp2_with fail
        go_roundw
        case rel =>
          refine ⟨0 + 1, by omega, val_int (by omega), ?_, HK3.out⟩
          have e : l ++ (o :: tptB G 0) ++ G 0 = l ++ (o :: tptB G (0 + 1)) := by rw [tptB]; simp [coB, tptB]
          show Tr _ _ _
          rw [← e]; exact HP3.out
        case measure => simp [intOf]; omega
      · have hj0 : 0 < j := by omega
        go_wp2_with fail
        go_at_call 31
        refine (CW.out ⟨#[44, 32]⟩ _ _ (by show 2 ≤ 2; omega) HPJ.out (by omega)).mono ?_
        rintro e w5 ⟨rfl, hp5, hk5⟩
        have CF := hid (HF.out j _ w5 hlt (HKJ.out.trans hk5) hp5 (by rw [List.length_append]; show _ + 2 ≤ _; omega))
        have HK5 := hid (HKJ.out.trans hk5)
        clear hp5 hk5
        go_wp2_with fail
        refine CF.out.mono ?_
        rintro e w3 ⟨rfl, hp3, hk3⟩
        have HP3 := hid hp3
        have HK3 := hid (HK5.out.trans hk3)
        clear hp3 hk3 CF
        go_wp2_with fail
        go_roundw
        case rel =>
          refine ⟨j + 1, by omega, val_int (by omega), ?_, HK3.out⟩
          have e := HNX.out _ rfl
          rw [decide_eq_false h0, show coB false = [44, 32] from rfl] at e
          show Tr _ _ _
          rw [← e]; exact HP3.out
        case measure => simp [intOf]; omega
    · obtain rfl : j = N := by omega
      go_wp2_with fail
      go_at_call 31
      refine (CW.out ⟨#[c]⟩ _ _ (by show 1 ≤ 2; omega) HPJ.out (by omega)).mono ?_
      rintro e w5 ⟨rfl, hp5, hk5⟩
      have HP5 := hid hp5
      have HK5 := hid (HKJ.out.trans hk5)
      clear hp5 hk5
      go_wp2_with fail
      first | go_end0 | refine bodyPost_ret (results_none rfl _ _ _) rfl ?_
      refine ⟨rfl, ?_, HK5.out⟩
      have e : l ++ (o :: (tptB G j ++ [c])) = l ++ (o :: tptB G j) ++ (⟨#[c]⟩ : ByteArray).data.toList := by simp
      rw [e]; exact HP5.out
end Go.Proofs.YtiaepihdfbahaaaGreatDoor
namespace Go.Proofs.YtiaepihdfbahaaaGreatDoor
open Go.RowKit

theorem pk_len {s : ByteArray} (h : s.size ≤ 4096) : (pkB s.data.toList).length ≤ 30000 := by
  unfold pkB
  split
  · rw [size_list]; omega
  · unfold qtA
    have h2 := qtK_len true s.data.toList (cnt s.data.toList)
    have h3 := cnt_le s.data.toList
    rw [size_list] at h3
    rw [List.length_append, List.length_singleton]; omega
set_option maxRecDepth 100000 in
set_option maxHeartbeats 2000000 in
theorem tpair_any (b : Nat) (l g : List UInt8) (c : ByteArray) (t : VT) (o1 o2 : Option Addr) (n1 c1 n2 c2 : Nat) (w : World) (hc : c.size ≤ 4096) (hl : l.length ≤ 1000000000000) (h : Tr w b l)
    (CV : ∀ X, Kt b w X → Tr X b (l ++ (pkB c.data.toList ++ [32, 61, 32])) → Calls Tryz.prog 53 #[.pointer (some ⟨b, 0, none⟩), vv t (.slice o1 n1 c1) (.slice o2 n2 c2)] X (Wt b (l ++ (pkB c.data.toList ++ [32, 61, 32]) ++ g) X)) :
    Calls Tryz.prog 30 #[.pointer (some ⟨b, 0, none⟩), .agg #[.string c, .int .i64 t.kd, .int .i64 t.nm, .string t.st, .slice o1 n1 c1, .slice o2 n2 c2]] w (Wt b (l ++ (pkB c.data.toList ++ [32, 61, 32]) ++ g) w) := by
  have HP0 := hid h
  have hlt := h.lt
  clear h
  have CK := hid (fun X => tpkey_any c X (by omega))
  obtain ⟨kp, hkp⟩ : ∃ kp, mkS (pkB c.data.toList) = kp := ⟨_, rfl⟩
  rw [hkp] at CK
  have hks : kp.size ≤ 30000 := by rw [← hkp, mkS_size]; exact pk_len hc
  have HE := hid (show (kp ++ (⟨#[32, 61, 32]⟩ : ByteArray)).data.toList = pkB c.data.toList ++ [32, 61, 32] by
    rw [← hkp, show (⟨#[32, 61, 32]⟩ : ByteArray) = mkS [32, 61, 32] from rfl, mkS_app, mkS_list])
  have CW := hid (fun X (hX : Tr X b l) => twrite_any b l (kp ++ (⟨#[32, 61, 32]⟩ : ByteArray)) X hX (by rw [ByteArray.size_append]; show l.length + (kp.size + 3) ≤ _; omega))
  have HCV := hid CV
  simp only [vv] at HCV
  obtain ⟨W0, hW0⟩ : ∃ W0, w.alloc (.cells #[.string c, .int .i64 t.kd, .int .i64 t.nm, .string t.st, .slice o1 n1 c1, .slice o2 n2 c2] 30) = W0 := ⟨_, rfl⟩
  have hb0 : Below w.heap.size w W0 := by rw [← hW0]; exact valloc_bel (Below.refl _ _) _
  have hbk : W0.heap[w.heap.size]? = some (.cells #[.string c, .int .i64 t.kd, .int .i64 t.nm, .string t.st, .slice o1 n1 c1, .slice o2 n2 c2] 30) := by rw [← hW0]; exact heap_alloc_new w _
  have HP := hid (HP0.out.on hb0)
  have HK0 := hid (Kt.of (b := b) hb0 (Nat.le_of_lt hlt))
  have BX := hid (fun (X : World) (hX : Kt b W0 X) (j : Nat) (v : Value) (hv : (#[.string c, .int .i64 t.kd, .int .i64 t.nm, .string t.st, .slice o1 n1 c1, .slice o2 n2 c2] : Array Value)[j]? = some v) => hX.cellk (j := j) hbk (by omega) (by decide) hv)
  clear hkp hb0 hbk CV
  go_enter Tryz.func30, Tryz.ntmps30
  go_upto_region 1 with fail
  refine wp_region_h (S := fun X => Kt b W0 X) 8 (by kernel_rfl) (by kernel_rfl) ?_
  have hS0 : Kt b W0 W0.drew := Kt.drew W0
  refine take_h (i := 0) (v := ?_) rfl (by kernel_rfl) (by kernel_rfl) (by kernel_rfl) (fun _ _ _ h => h) (by rfl) ?_ hS0 ?_
  rotate_left
  · (intro X hX; have z0 := BX.out X hX 0 _ rfl; go_simp; try with_reducible rfl)
  simp only [Act.put, List.setIfInBounds_toArray, List.set_cons_zero, List.set_cons_succ]
  refine take_h (i := 1) (v := ?_) rfl (by kernel_rfl) (by kernel_rfl) (by kernel_rfl) (fun _ _ _ h => h) (by rfl) ?_ hS0 ?_
  rotate_left
  · (intro X hX; have z0 := BX.out X hX 0 _ rfl; go_simp; try with_reducible rfl)
  simp only [Act.put, List.setIfInBounds_toArray, List.set_cons_zero, List.set_cons_succ]
  refine take_h (i := 2) (v := ?_) rfl (by kernel_rfl) (by kernel_rfl) (by kernel_rfl) (fun _ _ _ h => h) (by rfl) ?_ hS0 ?_
  rotate_left
  · (intro X hX; have z0 := BX.out X hX 0 _ rfl; go_simp; try with_reducible rfl)
  simp only [Act.put, List.setIfInBounds_toArray, List.set_cons_zero, List.set_cons_succ]
  refine take_h (i := 3) (v := ?_) rfl (by kernel_rfl) (by kernel_rfl) (by kernel_rfl) (fun _ _ _ h => h) (by rfl) ?_ hS0 ?_
  rotate_left
  · (intro X hX; have z0 := BX.out X hX 0 _ rfl; go_simp; try with_reducible rfl)
  simp only [Act.put, List.setIfInBounds_toArray, List.set_cons_zero, List.set_cons_succ]
  refine take_h (i := 4) (v := ?_) rfl (by kernel_rfl) (by kernel_rfl) (by kernel_rfl) (fun _ _ _ h => h) (by rfl) ?_ hS0 ?_
  rotate_left
  · (intro X hX; have z0 := BX.out X hX 0 _ rfl; go_simp; try with_reducible rfl)
  simp only [Act.put, List.setIfInBounds_toArray, List.set_cons_zero, List.set_cons_succ]
  refine step_h (i := 5) rfl (by kernel_rfl) ?_
  intro KK hKK
  go_simp
  go_wp2_with (go_at_call 13; go_must (refine (CK.out _).mono ?_; rintro e w1 ⟨rfl, hb1⟩))
  have hS1 : Kt b W0 w1 := hS0.trans (Kt.of hb1 (Nat.le_of_lt HP.out.drew.lt))
  have HP1 := hid (HP.out.drew.on hb1)
  refine hKK.out _ _ hS1 (fun _ => ?_)
  clear hKK KK
  refine step_h (i := 6) rfl (by kernel_rfl) ?_
  intro KK hKK
  go_simp
  go_wp2_with fail
  refine hKK.out _ _ hS1 (fun _ => ?_)
  clear hKK KK
  refine step_h (i := 7) rfl (by kernel_rfl) ?_
  intro KK hKK
  go_simp
  go_wp2_with (go_at_call 31; go_must (refine (CW.out _ HP1.out).mono ?_; rintro e w2 ⟨rfl, hp2, hk2⟩))
  have hS2 : Kt b W0 w2 := hS1.trans hk2
  refine hKK.out _ _ hS2 (fun _ => ?_)
  clear hKK KK
  refine wpAnyH_done (by kernel_rfl) ?_ _
  rw [HE.out] at hp2
  have CV1 := hid (HCV.out w2 (HK0.out.trans hS2) hp2)
  have HKK := hid (HK0.out.trans hS2)
  have z1 := BX.out w2 hS2 1 _ rfl
  have z2 := BX.out w2 hS2 2 _ rfl
  have z3 := BX.out w2 hS2 3 _ rfl
  have z4 := BX.out w2 hS2 4 _ rfl
  have z5 := BX.out w2 hS2 5 _ rfl
  clear BX hp2 hS2 hS1 hS0 hk2 hb1 hW0
  go_wp2_with fail
  go_at_call 53
  refine CV1.out.mono ?_
  rintro e w3 ⟨rfl, hp3, hk3⟩
  go_wp2_with fail
  first | go_end0 | refine bodyPost_ret (results_none rfl _ _ _) rfl ?_
  exact ⟨rfl, hp3, HKK.out.trans hk3⟩
set_option maxRecDepth 100000 in
set_option maxHeartbeats 2000000 in
theorem tclos_list (b : Nat) (l g : List UInt8) (t : VT) (o1 o2 : Option Addr) (n1 c1 n2 c2 : Nat) (p0 p1 : Nat) (a : Addr) (n cap j : Nat) (w : World) (hj : j < n)
    (h : Tr w b l)
    (c0 : ∀ X, Kt b w X → X.cell? ⟨p0, 0, none⟩ = some (.pointer (some ⟨b, 0, none⟩)))
    (c1' : ∀ X, Kt b w X → X.cell? ⟨p1, 3, none⟩ = some (.slice (some a) n cap))
    (hN : ∀ X, Kt b w X → Node X (a.add (j * 5)) t (.slice o1 n1 c1) (.slice o2 n2 c2))
    (CV : ∀ X, Kt b w X → Tr X b l → Calls Tryz.prog 53 #[.pointer (some ⟨b, 0, none⟩), vv t (.slice o1 n1 c1) (.slice o2 n2 c2)] X (Wt b (l ++ g) X)) :
    Calls Tryz.prog 76 #[.int .i64 (j : Int), .pointer (some ⟨p0, 0, none⟩), .pointer (some ⟨p1, 0, none⟩)] w (Wt b (l ++ g) w) := by
  have HC := hid CV
  have HP := hid h
  try simp only [vv] at HC
  clear CV h
  go_enter Tryz.func76, Tryz.ntmps76
  go_upto_region 0 with fail
  refine wp_region_h (S := fun X => Kt b w X) 7 (by kernel_rfl) (by kernel_rfl) ?_
  have hS0 : Kt b w w.drew := Kt.drew w
  refine take_h (i := 0) (v := ?_) rfl (by kernel_rfl) (by kernel_rfl) (by kernel_rfl) (fun _ _ _ h => h) (by rfl) ?_ hS0 ?_
  rotate_left
  · (intro X hX; have y0 := c0 X hX; have y1 := c1' X hX; obtain ⟨z0, z1, z2, z3, z4⟩ := hN X hX; go_simp; try with_reducible rfl)
  simp only [Act.put, List.setIfInBounds_toArray, List.set_cons_zero, List.set_cons_succ]
  refine take_h (i := 1) (v := ?_) rfl (by kernel_rfl) (by kernel_rfl) (by kernel_rfl) (fun _ _ _ h => h) (by rfl) ?_ hS0 ?_
  rotate_left
  · (intro X hX; have y0 := c0 X hX; have y1 := c1' X hX; obtain ⟨z0, z1, z2, z3, z4⟩ := hN X hX; go_simp; try with_reducible rfl)
  simp only [Act.put, List.setIfInBounds_toArray, List.set_cons_zero, List.set_cons_succ]
  refine take_h (i := 2) (v := ?_) rfl (by kernel_rfl) (by kernel_rfl) (by kernel_rfl) (fun _ _ _ h => h) (by rfl) ?_ hS0 ?_
  rotate_left
  · (intro X hX; have y0 := c0 X hX; have y1 := c1' X hX; obtain ⟨z0, z1, z2, z3, z4⟩ := hN X hX; go_simp; try with_reducible rfl)
  simp only [Act.put, List.setIfInBounds_toArray, List.set_cons_zero, List.set_cons_succ]
  refine take_h (i := 3) (v := ?_) rfl (by kernel_rfl) (by kernel_rfl) (by kernel_rfl) (fun _ _ _ h => h) (by rfl) ?_ hS0 ?_
  rotate_left
  · (intro X hX; have y0 := c0 X hX; have y1 := c1' X hX; obtain ⟨z0, z1, z2, z3, z4⟩ := hN X hX; go_simp; try with_reducible rfl)
  simp only [Act.put, List.setIfInBounds_toArray, List.set_cons_zero, List.set_cons_succ]
  refine take_h (i := 4) (v := ?_) rfl (by kernel_rfl) (by kernel_rfl) (by kernel_rfl) (fun _ _ _ h => h) (by rfl) ?_ hS0 ?_
  rotate_left
  · (intro X hX; have y0 := c0 X hX; have y1 := c1' X hX; obtain ⟨z0, z1, z2, z3, z4⟩ := hN X hX; go_simp; try with_reducible rfl)
  simp only [Act.put, List.setIfInBounds_toArray, List.set_cons_zero, List.set_cons_succ]
  refine take_h (i := 5) (v := ?_) rfl (by kernel_rfl) (by kernel_rfl) (by kernel_rfl) (fun _ _ _ h => h) (by rfl) ?_ hS0 ?_
  rotate_left
  · (intro X hX; have y0 := c0 X hX; have y1 := c1' X hX; obtain ⟨z0, z1, z2, z3, z4⟩ := hN X hX; go_simp; try with_reducible rfl)
  simp only [Act.put, List.setIfInBounds_toArray, List.set_cons_zero, List.set_cons_succ]
  refine step_h (i := 6) rfl (by kernel_rfl) ?_
  intro KK hKK
  go_simp
  go_wp2_with (go_at_call 53; go_must (refine (HC.out _ hS0 HP.out.drew).mono ?_; rintro e w1 ⟨rfl, hp1, hk1⟩))
  have hS1 : Kt b w w1 := hS0.trans hk1
  refine hKK.out _ _ hS1 (fun _ => ?_)
  clear hKK KK
  refine wpAnyH_done (by kernel_rfl) ?_ _
  go_wp2
  go_end0
  exact ⟨rfl, hp1, hS1⟩
set_option maxRecDepth 100000 in
set_option maxHeartbeats 2000000 in
theorem tclos_map (b : Nat) (l g : List UInt8) (t : VT) (c : ByteArray) (o1 o2 : Option Addr) (n1 c1 n2 c2 : Nat) (p0 p1 : Nat) (a : Addr) (n cap j : Nat) (w : World) (hj : j < n)
    (h : Tr w b l)
    (c0 : ∀ X, Kt b w X → X.cell? ⟨p0, 0, none⟩ = some (.pointer (some ⟨b, 0, none⟩)))
    (c1' : ∀ X, Kt b w X → X.cell? ⟨p1, 4, none⟩ = some (.slice (some a) n cap))
    (dk : ∀ X, Kt b w X → X.cell? (a.add (j * 6)) = some (.string c))
    (hN : ∀ X, Kt b w X → Node X (nx (a.add (j * 6))) t (.slice o1 n1 c1) (.slice o2 n2 c2))
    (CV : ∀ X, Kt b w X → Tr X b l → Calls Tryz.prog 30 #[.pointer (some ⟨b, 0, none⟩), .agg #[.string c, .int .i64 t.kd, .int .i64 t.nm, .string t.st, .slice o1 n1 c1, .slice o2 n2 c2]] X (Wt b (l ++ g) X)) :
    Calls Tryz.prog 77 #[.int .i64 (j : Int), .pointer (some ⟨p0, 0, none⟩), .pointer (some ⟨p1, 0, none⟩)] w (Wt b (l ++ g) w) := by
  have HC := hid CV
  have HP := hid h
  try simp only [vv] at HC
  clear CV h
  go_enter Tryz.func77, Tryz.ntmps77
  go_upto_region 0 with fail
  refine wp_region_h (S := fun X => Kt b w X) 7 (by kernel_rfl) (by kernel_rfl) ?_
  have hS0 : Kt b w w.drew := Kt.drew w
  refine take_h (i := 0) (v := ?_) rfl (by kernel_rfl) (by kernel_rfl) (by kernel_rfl) (fun _ _ _ h => h) (by rfl) ?_ hS0 ?_
  rotate_left
  · (intro X hX; have y0 := c0 X hX; have y1 := c1' X hX; have zk := dk X hX; have zz := hN X hX; simp only [nx] at zz; obtain ⟨z0, z1, z2, z3, z4⟩ := zz; go_simp; try with_reducible rfl)
  simp only [Act.put, List.setIfInBounds_toArray, List.set_cons_zero, List.set_cons_succ]
  refine take_h (i := 1) (v := ?_) rfl (by kernel_rfl) (by kernel_rfl) (by kernel_rfl) (fun _ _ _ h => h) (by rfl) ?_ hS0 ?_
  rotate_left
  · (intro X hX; have y0 := c0 X hX; have y1 := c1' X hX; have zk := dk X hX; have zz := hN X hX; simp only [nx] at zz; obtain ⟨z0, z1, z2, z3, z4⟩ := zz; go_simp; try with_reducible rfl)
  simp only [Act.put, List.setIfInBounds_toArray, List.set_cons_zero, List.set_cons_succ]
  refine take_h (i := 2) (v := ?_) rfl (by kernel_rfl) (by kernel_rfl) (by kernel_rfl) (fun _ _ _ h => h) (by rfl) ?_ hS0 ?_
  rotate_left
  · (intro X hX; have y0 := c0 X hX; have y1 := c1' X hX; have zk := dk X hX; have zz := hN X hX; simp only [nx] at zz; obtain ⟨z0, z1, z2, z3, z4⟩ := zz; go_simp; try with_reducible rfl)
  simp only [Act.put, List.setIfInBounds_toArray, List.set_cons_zero, List.set_cons_succ]
  refine take_h (i := 3) (v := ?_) rfl (by kernel_rfl) (by kernel_rfl) (by kernel_rfl) (fun _ _ _ h => h) (by rfl) ?_ hS0 ?_
  rotate_left
  · (intro X hX; have y0 := c0 X hX; have y1 := c1' X hX; have zk := dk X hX; have zz := hN X hX; simp only [nx] at zz; obtain ⟨z0, z1, z2, z3, z4⟩ := zz; go_simp; try with_reducible rfl)
  simp only [Act.put, List.setIfInBounds_toArray, List.set_cons_zero, List.set_cons_succ]
  refine take_h (i := 4) (v := ?_) rfl (by kernel_rfl) (by kernel_rfl) (by kernel_rfl) (fun _ _ _ h => h) (by rfl) ?_ hS0 ?_
  rotate_left
  · (intro X hX; have y0 := c0 X hX; have y1 := c1' X hX; have zk := dk X hX; have zz := hN X hX; simp only [nx] at zz; obtain ⟨z0, z1, z2, z3, z4⟩ := zz; go_simp; try with_reducible rfl)
  simp only [Act.put, List.setIfInBounds_toArray, List.set_cons_zero, List.set_cons_succ]
  refine take_h (i := 5) (v := ?_) rfl (by kernel_rfl) (by kernel_rfl) (by kernel_rfl) (fun _ _ _ h => h) (by rfl) ?_ hS0 ?_
  rotate_left
  · (intro X hX; have y0 := c0 X hX; have y1 := c1' X hX; have zk := dk X hX; have zz := hN X hX; simp only [nx] at zz; obtain ⟨z0, z1, z2, z3, z4⟩ := zz; go_simp; try with_reducible rfl)
  simp only [Act.put, List.setIfInBounds_toArray, List.set_cons_zero, List.set_cons_succ]
  refine step_h (i := 6) rfl (by kernel_rfl) ?_
  intro KK hKK
  go_simp
  go_wp2_with (go_at_call 30; go_must (refine (HC.out _ hS0 HP.out.drew).mono ?_; rintro e w1 ⟨rfl, hp1, hk1⟩))
  have hS1 : Kt b w w1 := hS0.trans hk1
  refine hKK.out _ _ hS1 (fun _ => ?_)
  clear hKK KK
  refine wpAnyH_done (by kernel_rfl) ?_ _
  go_wp2
  go_end0
  exact ⟨rfl, hp1, hS1⟩
end Go.Proofs.YtiaepihdfbahaaaGreatDoor
