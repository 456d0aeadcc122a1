/- Package dec, walked: Cmp. -/
import Derived.Test.YtnpojefcibfgkaaGreatDoorDecD
import Derived.Test.YtnpojefcibfgkaaGreatDoorAbove
namespace Go.Proofs.YtnpojefcibfgkaaGreatDoor
open Go.RowKit

theorem or_eq (d e : List UInt8) (n m : Int) (h : d = e ∧ n = m) : orI (cmpZ n m) (cmpS d e) = 0 := by
  obtain ⟨rfl, rfl⟩ := h
  unfold cmpS cmpZ orI; rw [ltB_irr]; simp
theorem or_ne (d e : List UInt8) (n m : Int) (h : ¬ (d = e ∧ n = m)) : orI (cmpZ n m) (cmpS d e) = if lessB d n e m then -1 else 1 := by
  unfold lessB
  by_cases h1 : n < m
  · have : cmpZ n m = -1 := by unfold cmpZ; rw [if_pos h1]
    rw [this, decide_eq_true h1]; rfl
  · by_cases h2 : m < n
    · have : cmpZ n m = 1 := by unfold cmpZ; rw [if_neg h1, if_pos h2]
      rw [this, decide_eq_false h1, decide_eq_false (by omega)]; rfl
    · have hnm : n = m := by omega
      have : cmpZ n m = 0 := by unfold cmpZ; rw [if_neg h1, if_neg h2]
      rw [this, decide_eq_false h1, decide_eq_true hnm, Bool.false_or, Bool.true_and]
      unfold orI cmpS; rw [if_pos rfl]
      rcases ltB_tri d e with ⟨g1, g2, g3⟩ | g | ⟨g1, g2, g3⟩
      · rw [g1]; rfl
      · exact absurd ⟨g, hnm⟩ h
      · rw [g1, g2]; rfl
theorem cmp_land (k l : List UInt8) (hk : numB k = true) (hl : numB l = true) :
    (¬ rdS k = rdS l → cmpI k l = cmpZ (rdS k) (rdS l)) ∧ (rdS k = rdS l → cmpI k l = rdS k * orI (cmpZ (rdT k) (rdT l)) (cmpS (rdD k) (rdD l))) := by
  rw [cmp_tri k l hk hl]
  unfold rdS rdT rdD; rw [if_pos hk, if_pos hk, if_pos hk, if_pos hl, if_pos hl, if_pos hl]
  have T := tri_of k; have U := tri_of l
  generalize scN k = p at T ⊢
  generalize scD k = d at T ⊢
  generalize scT k = n at T ⊢
  generalize scN l = q at U ⊢
  generalize scD l = e at U ⊢
  generalize scT l = m at U ⊢
  constructor
  · intro hs
    have h0 : ¬ (d = e ∧ p = q ∧ n = m) := fun h => hs (by rw [h.1, h.2.1])
    unfold tcmp; rw [if_neg h0, if_neg hs]
    unfold cmpZ
    by_cases h1 : sgI p d < sgI q e
    · rw [if_pos h1, if_pos h1]
    · rw [if_neg h1, if_neg h1, if_pos (by omega)]
  · intro hs
    rcases sg_cases p d with ⟨a1, a2⟩ | ⟨a1, a2, a3⟩ | ⟨a1, a2, a3⟩
    · rcases sg_cases q e with ⟨b1, b2⟩ | ⟨b1, b2, b3⟩ | ⟨b1, b2, b3⟩
      · rw [a2, Int.zero_mul]; unfold tcmp
        rw [if_pos ⟨by rw [a1, b1], by rw [(T a1).1, (U b1).1], by rw [(T a1).2, (U b1).2]⟩]
      · omega
      · omega
    · rcases sg_cases q e with ⟨b1, b2⟩ | ⟨b1, b2, b3⟩ | ⟨b1, b2, b3⟩
      · omega
      · by_cases h : d = e ∧ n = m
        · rw [or_eq d e n m h]; unfold tcmp; rw [if_pos ⟨h.1, by rw [a2, b2], h.2⟩]; omega
        · rw [or_ne d e n m h, a3]; unfold tcmp; rw [if_neg (fun g => h ⟨g.1, g.2.2⟩), if_pos hs, a3]
          cases lessB d n e m <;> rfl
      · omega
    · rcases sg_cases q e with ⟨b1, b2⟩ | ⟨b1, b2, b3⟩ | ⟨b1, b2, b3⟩
      · omega
      · omega
      · by_cases h : d = e ∧ n = m
        · rw [or_eq d e n m h]; unfold tcmp; rw [if_pos ⟨h.1, by rw [a2, b2], h.2⟩]; omega
        · rw [or_ne d e n m h, a3]; unfold tcmp; rw [if_neg (fun g => h ⟨g.1, g.2.2⟩), if_pos hs, a3]
          cases lessB d n e m <;> rfl
theorem mul_small (i o : Int) (h1 : -1 ≤ i) (h2 : i ≤ 1) (h3 : -1 ≤ o ∧ o ≤ 1) : wrap64 (i * o) = i * o := by
  have : -1 ≤ i * o ∧ i * o ≤ 1 := by
    rcases (by omega : i = -1 ∨ i = 0 ∨ i = 1) with rfl | rfl | rfl <;> omega
  unfold wrap64; omega
theorem onto {w a b : World} (h : Below w.heap.size w a) (k : Below a.heap.size a b) : Below w.heap.size w b := h.trans (k.mono h.size)
/-- a number that lies in memory -/
def NumAt (w : World) (b : Nat) (l : List UInt8) : Prop := w.cell? ⟨b, 0, none⟩ = some (.int .i64 (rdS l)) ∧ w.cell? ⟨b, 1, none⟩ = some (.string (mkS (rdD l))) ∧ w.cell? ⟨b, 2, none⟩ = some (.int .i64 (rdT l))
theorem numat_new (w : World) (l : List UInt8) (t : TypeId) : NumAt (w.alloc (Obj.cells #[.int .i64 (rdS l), .string (mkS (rdD l)), .int .i64 (rdT l)] t)) w.heap.size l := by
  have h := fun j => World.cell?_alloc_mark w #[.int .i64 (rdS l), .string (mkS (rdD l)), .int .i64 (rdT l)] t (0, 0) j
  exact ⟨h 0, h 1, h 2⟩
theorem numat_on {w u : World} {b : Nat} {l : List UInt8} (h : NumAt w b l) (k : Below w.heap.size w u) : NumAt u b l := by
  have g := fun (j : Nat) (v : Value) (e : w.cell? ⟨b, j, none⟩ = some v) => (k.cell (p := ⟨b, j, none⟩) (World.block_lt_of_cell? w _ e)).trans e
  exact ⟨g 0 _ h.1, g 1 _ h.2.1, g 2 _ h.2.2⟩
theorem or_bd (d e : List UInt8) (n m : Int) : -1 ≤ orI (cmpZ n m) (cmpS d e) ∧ orI (cmpZ n m) (cmpS d e) ≤ 1 := by
  by_cases h : d = e ∧ n = m
  · rw [or_eq d e n m h]; omega
  · rw [or_ne d e n m h]; split <;> omega
set_option maxRecDepth 100000 in
set_option maxHeartbeats 1000000 in
theorem dcmp_max (a b : ByteArray) (w : World) (ha : a.size ≤ maxLen) (hb : b.size ≤ maxLen) :
    Calls Tryz.prog 51 #[.string a, .string b] w fun e w' => e = .returned (.int .i64 (cmpI a.data.toList b.data.toList)) ∧ Below w.heap.size w w' := by
  have ra := hid (fun w => read_any a w ha)
  have rb := hid (fun w => read_any b w hb)
  generalize a.data.toList = k at ra ⊢
  generalize b.data.toList = l at rb ⊢
  go_enter Tryz.func51, Tryz.ntmps51
  go_upto_region 3 with (first
    | (go_at_call_of 61 a; go_must (refine (ra.out _).mono ?_; rintro e w1 ⟨rfl, hb1⟩; unfold rdV rdA))
    | (go_at_call_of 61 b; go_must (refine (rb.out _).mono ?_; rintro e w2 ⟨rfl, hb2⟩; unfold rdV rdA)))
  have HX0 := numat_on (numat_on (numat_new w1 k 80) hb2) (alloc_bel (Below.refl _ w2) (Obj.cells #[.int .i64 (rdS l), .string (mkS (rdD l)), .int .i64 (rdT l)] 80))
  have HY0 := numat_new w2 l 80
  have HW := alloc_bel (hb1.trans ((alloc_bel (Below.refl _ w1) (Obj.cells #[.int .i64 (rdS k), .string (mkS (rdD k)), .int .i64 (rdT k)] 80)).mono hb1.size |>.trans (hb2.mono (by have := hb1.size; simp; omega)))) (Obj.cells #[.int .i64 (rdS l), .string (mkS (rdD l)), .int .i64 (rdT l)] 80)
  obtain ⟨v, hv⟩ : ∃ v, w2.alloc (Obj.cells #[.int .i64 (rdS l), .string (mkS (rdD l)), .int .i64 (rdT l)] 80) = v := ⟨_, rfl⟩
  rw [hv] at HX0 HY0 HW ⊢
  have HX := hid HX0
  have HY := hid HY0
  generalize w1.heap.size = bx at HX ⊢
  generalize w2.heap.size = bz at HY ⊢
  clear hv hb1 hb2 HX0 HY0
  clear w2 w1
  cases hx : numB k
  · cases hy : numB l
    all_goals
      have H := hid (show cmpI k l = _ by unfold cmpI; rw [hx, hy])
      go_wp2_with fail
      go_ret
      exact ⟨ret_int H.out.symm, HW⟩
  · cases hy : numB l
    · have H := hid (show cmpI k l = _ by unfold cmpI; rw [hx, hy])
      go_wp2_with fail
      go_ret
      exact ⟨ret_int H.out.symm, HW⟩
    · obtain ⟨H1, H2⟩ := cmp_land k l hx hy
      obtain ⟨x0, x1, x2⟩ := HX.out
      obtain ⟨y0, y1, y2⟩ := HY.out
      have B1 := rd_bd k
      have B2 := or_bd (rdD k) (rdD l) (rdT k) (rdT l)
      have sz := hid (fun w => sizes_any (rdS k) (rdT k) (rdS l) (rdT l) (mkS (rdD k)) (mkS (rdD l)) w)
      rw [mkS_list, mkS_list] at sz
      generalize orI (cmpZ (rdT k) (rdT l)) (cmpS (rdD k) (rdD l)) = o at sz H2 B2
      generalize rdS k = i at x0 H1 H2 B1 sz ⊢
      generalize rdS l = j at y0 H1 H2 sz ⊢
      by_cases hs : i = j
      · have g : (i != j) = false := by rw [hs]; simp
        have H := hid (H2 hs)
        clear hs H1 H2
        go_wp2_with fail
        have hinh := abv_some v
        have u0 := above_cell x0
        have u1 := above_cell x1
        have u2 := above_cell x2
        have t0 := above_cell y0
        have t1 := above_cell y1
        have t2 := above_cell y2
        refine wp_region_above (by kernel_rfl) (by kernel_rfl) ?_
        repeat (go_big_quiet_step ((go_at_call 68; exact above_of (sz.out _))))
        refine wpQuiet_nil ?_
        intro _ hw'
        obtain ⟨X, hX⟩ := hw'
        subst hX
        go_wp2_with fail
        go_ret
        exact ⟨ret_int (by rw [H.out]; exact mul_small i o B1.1 B1.2.1 B2), onto HW X.h⟩
      · have g : (i != j) = true := by simpa using hs
        have H := hid (H1 hs)
        clear hs H1 H2
        go_wp2_with (go_at_call 67; go_must (refine (cmpz_any _ _ _).mono ?_; rintro r w3 ⟨rfl, hw⟩; obtain rfl := hw.symm))
        go_ret
        exact ⟨ret_int H.out.symm, HW⟩
end Go.Proofs.YtnpojefcibfgkaaGreatDoor
