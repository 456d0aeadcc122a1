import Derived.Test.YtapclgjaalammaaL13B
import Derived.Test.YtapclgjaalammaaL13R
import Derived.Test.YtapclgjaalammaaMathCe
import Derived.Test.YtapclgjaalammaaVInS
/- The statement CreadEnds: walked. -/
namespace Go.Proofs.Ytapclgjaalammaa
open Go.RowKit

theorem ctrE_err (R : CTR) : ctrErr R = ctrE R := by cases R <;> rfl
theorem tq_rows {t : ByteArray} {R : CTR} {w w' : World} {e : Ending} (h : Tq t w R e w') : ∃ (o : Option Addr) (n c : Nat) (E : List (List (List UInt8) × Value)) (x y z : Int), e = .returned (.tuple #[.slice o n c, .agg #[.int .i64 (ctrE R : Int), .int .i64 x, .int .i64 y, .int .i64 z]]) ∧ E.map (·.1) = ctrRows R ∧ Rws w' w.heap.size (.slice o n c) E ∧ Below w.heap.size w w' := by
  cases R with
  | ok rs => obtain ⟨o, n, c, E, rfl, hE, hR, hb⟩ := h; exact ⟨_, _, _, E, _, _, _, rfl, hE, hR, hb⟩
  | bad er a => obtain ⟨rfl, hb⟩ := h; exact ⟨_, _, _, [], _, _, _, rfl, rfl, ⟨World.ownsRow_nil _ _ _ _, by simp⟩, hb⟩
theorem ce_rows : ∀ (ls : List (List UInt8)) (rs : List (List (List UInt8))), (∀ x ∈ ls, lineB x) → (∀ fs ∈ rs, fs.length ≤ 51) → (ceE rs ls).2.length ≤ rs.length + ls.length ∧ ∀ fs ∈ (ceE rs ls).2, fs.length ≤ 51
  | [], rs, _, h => ⟨by simp [ceE], h⟩
  | x :: r, rs, hx, h => by
    rw [ceE]
    split
    · simp
    · split
      · simp
      · have h1 := (spl_len x).2
        have h2 := (hx x (by simp)).1
        obtain ⟨i1, i2⟩ := ce_rows r (rs ++ [spl x]) (fun y hy => hx y (List.mem_cons_of_mem _ hy)) (fun fs hf => by
          rcases List.mem_append.1 hf with hf | hf
          · exact h fs hf
          · simp at hf; subst hf; omega)
        refine ⟨?_, i2⟩
        rw [List.length_append] at i1
        simp only [List.length_cons, List.length_nil] at i1 ⊢; omega
theorem ceA_rows (ls : List (List UInt8)) (hx : ∀ x ∈ ls, lineB x) : (ceA ls).2.length ≤ ls.length ∧ ∀ fs ∈ (ceA ls).2, fs.length ≤ 51 := by
  unfold ceA
  split
  · have := ce_rows ls [] hx (by simp)
    simpa using this
  · simp
set_option maxRecDepth 100000 in
set_option maxHeartbeats 1000000 in
theorem cends_out0 (n c : Nat) (o : Option Addr) (w : World) (h : (n : Int) < 1) :
    Calls Try.prog 6 #[.slice o n c] w fun e w' => e = .returned (.bool true) ∧ Below w.heap.size w w' := by
  have CA := hid (awake13 w)
  go_enter Try.func6, Try.ntmps6
  go_wp2_with (go_at_call 8; go_must (refine CA.out.mono ?_; rintro e w0 ⟨rfl, hb0⟩))
  go_ret
  exact ⟨rfl, hb0⟩
set_option maxRecDepth 100000 in
set_option maxHeartbeats 1000000 in
theorem cends_out1 (n c : Nat) (o : Option Addr) (w : World) (h : ¬ (n : Int) < 1 ∧ (20 : Int) < (n : Int)) :
    Calls Try.prog 6 #[.slice o n c] w fun e w' => e = .returned (.bool true) ∧ Below w.heap.size w w' := by
  have CA := hid (awake13 w)
  go_enter Try.func6, Try.ntmps6
  go_wp2_with (go_at_call 8; go_must (refine CA.out.mono ?_; rintro e w0 ⟨rfl, hb0⟩))
  go_ret
  exact ⟨rfl, hb0⟩
theorem mkS_appc (a b : List UInt8) : mkS a ++ mkS b = mkS (a ++ b) := mkS_of _ _ (by rw [ByteArray.data_append, Array.toList_append, mkS_list, mkS_list])
/-- the three texts read, and held against each other -/
theorem ce_same {L : List (List UInt8)} {R R' : CTR} (h : (ctrE R, ctrRows R) = ceA L) (h' : (ctrE R', ctrRows R') = ceA L) : ctrE R = ctrE R' ∧ ctrRows R = ctrRows R' := by
  rw [← h', Prod.mk.injEq] at h; exact h
set_option maxRecDepth 100000 in
set_option maxHeartbeats 8000000 in
theorem cends_in (ks : List ByteArray) (a : Addr) (c : Nat) (w : World) (h1 : 1 ≤ ks.length) (h20 : ks.length ≤ 20) (hc : ks.length ≤ c) (hcell : ∀ i x, ks[i]? = some x → w.cell? (a.add i) = some (.string x) ∧ x.size ≤ maxLen) :
    Calls Try.prog 6 #[.slice (some a) ks.length c] w fun e w' => e = .returned (.bool true) ∧ Below w.heap.size w w' := by
  have CA := hid (awake13 w)
  have HCL := hid hcell
  obtain ⟨n, hn⟩ : ∃ n, ks.length = n := ⟨_, rfl⟩
  have HN := hid hn
  obtain ⟨L, hL⟩ : ∃ L, ks.map (·.data.toList) = L := ⟨_, rfl⟩
  have HL := hid hL
  have hLl : L.length = n := by rw [← hL, List.length_map, hn]
  rw [hn] at h1 h20 hc ⊢
  have g0 : ¬ (n : Int) < 1 := by omega
  have g1 : ¬ (20 : Int) < (n : Int) := by omega
  clear hcell hn hL
  go_enter Try.func6, Try.ntmps6
  go_wp2_with fail
  go_at_call 8
  refine CA.out.mono ?_
  rintro e w0 ⟨rfl, hb0⟩
  have HB0 := hid hb0
  have HC0 : Hid (∀ i x, ks[i]? = some x → w0.cell? (a.add i) = some (.string x)) := hid (fun i x hx => keepCell hb0 (HCL.out i x hx).1)
  clear hb0 CA HCL
  go_wp2_with fail
  go_loop [3, 4, 5, 6] (fun q3 q4 i _ => ∃ (k : Nat) (A B : ByteArray), k ≤ n ∧ i = .int .i64 (k : Int) ∧ q3 = .string A ∧ q4 = .string B ∧ A.size ≤ 52 * k ∧ B.size ≤ 52 * k ∧ Hid (A = mkS (ceT [10] (L.take k))) ∧ Hid (B = mkS (ceT [13, 10] (L.take k))) ∧ Hid (∀ x ∈ L.take k, lineB x) ∧ Hid (∀ j < k, j + 1 = n → L[j]? ≠ some [])) (fun _ _ i _ => n - (intOf i).toNat)
  case atStart => exact ⟨0, ⟨#[]⟩, ⟨#[]⟩, Nat.zero_le _, rfl, rfl, rfl, Nat.le_refl _, Nat.le_refl _, hid rfl, hid rfl, hid (by simp), hid (fun j hj => absurd hj (Nat.not_lt_zero _))⟩
  case round =>
    obtain ⟨k, A, B, hk, rfl, rfl, rfl, hA, hB, HA, HB, HLN, HLA⟩ := hrel
    by_cases hlt : k < n
    · have hltz : (k : Int) < (n : Int) := by omega
      obtain ⟨x, hx⟩ : ∃ x, ks[k]? = some x := ⟨_, List.getElem?_eq_getElem (by rw [HN.out]; exact hlt)⟩
      have cx := HC0.out k x hx
      have HLK : Hid (L[k]? = some x.data.toList) := hid (by rw [← HL.out, List.getElem?_map, hx]; rfl)
      have HTS : Hid (L.take (k + 1) = L.take k ++ [x.data.toList]) := hid (by
        obtain ⟨hl, he⟩ := List.getElem?_eq_some_iff.1 HLK.out
        rw [List.take_succ_eq_append_getElem hl, he])
      clear hx
      by_cases h50 : 50 < x.size
      · have h50z : (50 : Int) < (x.size : Int) := by omega
        go_wp2_with fail
        go_ret
        exact ⟨rfl, HB0.out⟩
      have h50z : ¬ (50 : Int) < (x.size : Int) := by omega
      have hdone : (x.size = 0 ∧ k + 1 = n) ∨ (x.size = 0 ∧ ¬ k + 1 = n) ∨ 0 < x.size := by omega
      have INNER : Hid (¬ (x.size = 0 ∧ k + 1 = n)) ∨ (x.size = 0 ∧ k + 1 = n) := by
        by_cases h : x.size = 0 ∧ k + 1 = n
        · exact Or.inr h
        · exact Or.inl (hid h)
      rcases INNER with HNL | ⟨hx0, hkn⟩
      rotate_left
      · have e1 := toList_none x hx0
        have e2 : (x.toList == []) = true := by simp [List.isEmpty_iff.1 e1]
        have e3 : ((k : Int) == (n : Int) - 1) = true := by rw [beq_iff_eq]; omega
        clear hx0 hkn hdone
        go_wp2_with fail
        go_ret
        exact ⟨rfl, HB0.out⟩
      have HLAST : Hid (∀ j < k + 1, j + 1 = n → L[j]? ≠ some []) := hid (fun j hj hjn => by
        by_cases hjk : j < k
        · exact HLA.out j hjk hjn
        · obtain rfl : j = k := by omega
          rw [HLK.out]
          intro e
          injection e with e
          have hz : x.size = 0 := by rw [← size_list, e]; rfl
          exact HNL.out ⟨hz, hjn⟩)
      have LOOPX : True := trivial
      rcases hdone with ⟨hx0, hkn⟩ | ⟨hx0, hkn⟩ | hx0
      · exact absurd ⟨hx0, hkn⟩ HNL.out
      · have e1 := toList_none x hx0
        have e2 : (x.toList == []) = true := by simp [List.isEmpty_iff.1 e1]
        have e3 : ((k : Int) == (n : Int) - 1) = false := by rw [beq_eq_false_iff_ne]; omega
        clear hx0 hkn LOOPX HNL
        go_wp2_with fail
        go_loop [6] (fun i => ∃ j : Nat, j ≤ x.size ∧ i = .int .i64 (j : Int) ∧ Hid (∀ m (h : m < x.size), m < j → x[m] ≠ 10 ∧ x[m] ≠ 13 ∧ x[m] ≠ 34)) (fun i => x.size - (intOf i).toNat)
        case atStart => exact ⟨0, Nat.zero_le _, rfl, hid (fun m _ hm => absurd hm (Nat.not_lt_zero _))⟩
        case round =>
          obtain ⟨j, hj, rfl, HJ⟩ := hrel
          by_cases hjl : j < x.size
          · have hjz : (j : Int) < (x.size : Int) := by omega
            by_cases b10 : x[j].toNat = 10
            · have e10 : ((x[j].toNat : Int) == 10) = true := by rw [b10]; rfl
              clear b10
              go_wp2_with fail
              go_ret
              exact ⟨rfl, HB0.out⟩
            have e10 : ((x[j].toNat : Int) == 10) = false := by rw [beq_eq_false_iff_ne]; omega
            by_cases b13 : x[j].toNat = 13
            · have e13 : ((x[j].toNat : Int) == 13) = true := by rw [b13]; rfl
              clear b13 b10
              go_wp2_with fail
              go_ret
              exact ⟨rfl, HB0.out⟩
            have e13 : ((x[j].toNat : Int) == 13) = false := by rw [beq_eq_false_iff_ne]; omega
            by_cases b34 : x[j].toNat = 34
            · have e34 : ((x[j].toNat : Int) == 34) = true := by rw [b34]; rfl
              clear b13 b10 b34
              go_wp2_with fail
              go_ret
              exact ⟨rfl, HB0.out⟩
            have e34 : ((x[j].toNat : Int) == 34) = false := by rw [beq_eq_false_iff_ne]; omega
            have HJ2 : Hid (∀ m (h : m < x.size), m < j + 1 → x[m] ≠ 10 ∧ x[m] ≠ 13 ∧ x[m] ≠ 34) := hid (fun m h hm => by
              by_cases hmj : m < j
              · exact HJ.out m h hmj
              · obtain rfl : m = j := by omega
                exact ⟨fun e => b10 (by rw [e]; rfl), fun e => b13 (by rw [e]; rfl), fun e => b34 (by rw [e]; rfl)⟩)
            clear b10 b13 b34 HJ
            go_wp2_with fail
            go_round
            case rel => exact ⟨j + 1, hjl, by go_num, HJ2⟩
            case measure => simp [intOf]; omega
          · have hjz : ¬ (j : Int) < (x.size : Int) := by omega
            have HLX : Hid (lineB x.data.toList) := hid ⟨by rw [size_list]; omega, fun b hb => by
              obtain ⟨m, hm, rfl⟩ := List.getElem_of_mem hb
              exact HJ.out m (by rw [size_list] at hm; exact hm) (by rw [size_list] at hm; omega)⟩
            clear HJ hjl
            go_wp2_with fail
            go_round
            case rel => exact ⟨k + 1, A ++ x ++ ⟨#[10]⟩, B ++ x ++ ⟨#[13, 10]⟩, hlt, by go_num, rfl, rfl, by rw [ByteArray.size_append, ByteArray.size_append]; show A.size + x.size + 1 ≤ _; omega, by rw [ByteArray.size_append, ByteArray.size_append]; show B.size + x.size + 2 ≤ _; omega, hid (by rw [HTS.out, ceT_snoc, HA.out, show x = mkS x.data.toList from mkS_of x _ rfl, show (⟨#[10]⟩ : ByteArray) = mkS [10] from rfl, mkS_appc, mkS_appc, mkS_list, List.append_assoc]), hid (by rw [HTS.out, ceT_snoc, HB.out, show x = mkS x.data.toList from mkS_of x _ rfl, show (⟨#[13, 10]⟩ : ByteArray) = mkS [13, 10] from rfl, mkS_appc, mkS_appc, mkS_list, List.append_assoc]), hid (by rw [HTS.out]; intro y hy; rcases List.mem_append.1 hy with hy | hy; exact HLN.out y hy; simp at hy; rw [hy]; exact HLX.out), HLAST⟩
            case measure => simp [intOf]; omega
      · have e1 := toList_some x hx0
        have e2 : (x.toList == []) = false := by rw [beq_eq_false_iff_ne]; intro e; rw [e] at e1; simp at e1
        clear hx0 LOOPX HNL
        go_wp2_with fail
        go_loop [6] (fun i => ∃ j : Nat, j ≤ x.size ∧ i = .int .i64 (j : Int) ∧ Hid (∀ m (h : m < x.size), m < j → x[m] ≠ 10 ∧ x[m] ≠ 13 ∧ x[m] ≠ 34)) (fun i => x.size - (intOf i).toNat)
        case atStart => exact ⟨0, Nat.zero_le _, rfl, hid (fun m _ hm => absurd hm (Nat.not_lt_zero _))⟩
        case round =>
          obtain ⟨j, hj, rfl, HJ⟩ := hrel
          by_cases hjl : j < x.size
          · have hjz : (j : Int) < (x.size : Int) := by omega
            by_cases b10 : x[j].toNat = 10
            · have e10 : ((x[j].toNat : Int) == 10) = true := by rw [b10]; rfl
              clear b10
              go_wp2_with fail
              go_ret
              exact ⟨rfl, HB0.out⟩
            have e10 : ((x[j].toNat : Int) == 10) = false := by rw [beq_eq_false_iff_ne]; omega
            by_cases b13 : x[j].toNat = 13
            · have e13 : ((x[j].toNat : Int) == 13) = true := by rw [b13]; rfl
              clear b13 b10
              go_wp2_with fail
              go_ret
              exact ⟨rfl, HB0.out⟩
            have e13 : ((x[j].toNat : Int) == 13) = false := by rw [beq_eq_false_iff_ne]; omega
            by_cases b34 : x[j].toNat = 34
            · have e34 : ((x[j].toNat : Int) == 34) = true := by rw [b34]; rfl
              clear b13 b10 b34
              go_wp2_with fail
              go_ret
              exact ⟨rfl, HB0.out⟩
            have e34 : ((x[j].toNat : Int) == 34) = false := by rw [beq_eq_false_iff_ne]; omega
            have HJ2 : Hid (∀ m (h : m < x.size), m < j + 1 → x[m] ≠ 10 ∧ x[m] ≠ 13 ∧ x[m] ≠ 34) := hid (fun m h hm => by
              by_cases hmj : m < j
              · exact HJ.out m h hmj
              · obtain rfl : m = j := by omega
                exact ⟨fun e => b10 (by rw [e]; rfl), fun e => b13 (by rw [e]; rfl), fun e => b34 (by rw [e]; rfl)⟩)
            clear b10 b13 b34 HJ
            go_wp2_with fail
            go_round
            case rel => exact ⟨j + 1, hjl, by go_num, HJ2⟩
            case measure => simp [intOf]; omega
          · have hjz : ¬ (j : Int) < (x.size : Int) := by omega
            have HLX : Hid (lineB x.data.toList) := hid ⟨by rw [size_list]; omega, fun b hb => by
              obtain ⟨m, hm, rfl⟩ := List.getElem_of_mem hb
              exact HJ.out m (by rw [size_list] at hm; exact hm) (by rw [size_list] at hm; omega)⟩
            clear HJ hjl
            go_wp2_with fail
            go_round
            case rel => exact ⟨k + 1, A ++ x ++ ⟨#[10]⟩, B ++ x ++ ⟨#[13, 10]⟩, hlt, by go_num, rfl, rfl, by rw [ByteArray.size_append, ByteArray.size_append]; show A.size + x.size + 1 ≤ _; omega, by rw [ByteArray.size_append, ByteArray.size_append]; show B.size + x.size + 2 ≤ _; omega, hid (by rw [HTS.out, ceT_snoc, HA.out, show x = mkS x.data.toList from mkS_of x _ rfl, show (⟨#[10]⟩ : ByteArray) = mkS [10] from rfl, mkS_appc, mkS_appc, mkS_list, List.append_assoc]), hid (by rw [HTS.out, ceT_snoc, HB.out, show x = mkS x.data.toList from mkS_of x _ rfl, show (⟨#[13, 10]⟩ : ByteArray) = mkS [13, 10] from rfl, mkS_appc, mkS_appc, mkS_list, List.append_assoc]), hid (by rw [HTS.out]; intro y hy; rcases List.mem_append.1 hy with hy | hy; exact HLN.out y hy; simp at hy; rw [hy]; exact HLX.out), HLAST⟩
            case measure => simp [intOf]; omega
    · have hltz : ¬ (k : Int) < (n : Int) := by omega
      obtain rfl : k = n := by omega
      have hLt : L.take k = L := List.take_of_length_le (by omega)
      rw [hLt] at HA HB HLN
      have hne : L ≠ [] := by intro e; rw [e] at hLl; simp at hLl; omega
      have hlast : L.getLast? ≠ some [] := by
        rw [List.getLast?_eq_getElem?]
        exact HLA.out (L.length - 1) (by omega) (by omega)
      have hAz : A.size = (ceT [10] L).length := by rw [HA.out, mkS_size]
      have hA1 : 1 ≤ A.size := by rw [hAz, ceZ_cut L hne, List.length_append]; simp
      have HZ : Hid (A.extract 0 (A.size - 1) = mkS (ceZ L)) := hid (mkS_of _ _ (by
        rw [take_list, HA.out, mkS_list, mkS_size, ceZ_cut L hne]
        simp))
      have C1 := hid (fun X => crows_any A X (by omega))
      have C2 := hid (fun X => crows_any B X (by omega))
      have C3 := hid (fun X => crows_any (A.extract 0 (A.size - 1)) X (by rw [ByteArray.size_extract]; omega))
      have hla : A.data.toList = ceT [10] L := by rw [HA.out, mkS_list]
      have hlb : B.data.toList = ceT [13, 10] L := by rw [HB.out, mkS_list]
      have hlz : (A.extract 0 (A.size - 1)).data.toList = ceZ L := by rw [HZ.out, mkS_list]
      rw [hla] at C1
      rw [hlb] at C2
      rw [hlz] at C3
      have HS2 := hid (ce_same (csv_ce [13, 10] (Or.inr rfl) L HLN.out (by omega)) (csv_ce [10] (Or.inl rfl) L HLN.out (by omega)))
      have HS3 := hid (ce_same (csv_cz L hne HLN.out (by omega) hlast) (csv_ce [10] (Or.inl rfl) L HLN.out (by omega)))
      have HRL : Hid ((ctrRows (csvR fldP (ceT [10] L))).length ≤ 20 ∧ ∀ fs ∈ ctrRows (csvR fldP (ceT [10] L)), fs.length ≤ 51) := hid (by
        have h := csv_ce [10] (Or.inl rfl) L HLN.out (by omega)
        have h2 := ceA_rows L HLN.out
        rw [← h] at h2
        exact ⟨by have := h2.1; simp only at this; omega, h2.2⟩)
      generalize csvR fldP (ceT [10] L) = R1 at *
      generalize csvR fldP (ceT [13, 10] L) = R2 at *
      generalize csvR fldP (ceZ L) = R3 at *
      clear HLA hLt hla hlb hlz hAz hne hlast HZ HLN HA HB
      go_wp2_with fail
      go_at_call 9
      refine (C1.out _).mono ?_
      intro e w1 hq1
      obtain ⟨o1, n1, k1, E1, x1, y1, z1, rfl, hE1, hR1, hb1⟩ := tq_rows hq1
      have HE1 := hid hE1
      have HW1 := hid hR1
      have HB1 := hid (vonto HB0.out hb1)
      have hEl : E1.length ≤ 20 := by have := HRL.out.1; rw [← hE1, List.length_map] at this; exact this
      have hEr : ∀ e ∈ E1, e.1.length ≤ 1000000 := fun e he => by
        have := HRL.out.2 e.1 (by rw [← hE1]; exact List.mem_map_of_mem he)
        omega
      have HEr := hid hEr
      obtain ⟨er, her⟩ : ∃ er : Int, ((ctrE R1 : Nat) : Int) = er := ⟨_, rfl⟩
      have HER := hid her
      rw [her]
      clear hq1 hE1 hR1 hb1 C1 HB0 hEr her HRL
      go_upto_region 19 with fail
      refine cwp_gen ?_
      intro V1 hV
      have b4 := box4 w1 (.int .i64 er) (.int .i64 x1) (.int .i64 y1) (.int .i64 z1)
      have hb : Below w1.heap.size w1 V1 := by rw [hV]; exact valloc_bel (Below.refl _ _) _
      rw [← hV] at b4
      obtain ⟨a1, -, -, -⟩ := b4
      have HV1 := hid (vonto HB1.out hb)
      have HX1 := hid (HW1.out.onto hb)
      clear hV hb HB1 HW1
      go_wp2_with fail
      go_at_call 9
      refine (C2.out _).mono ?_
      intro e w2 hq2
      obtain ⟨o2, n2, k2, E2, x2, y2, z2, rfl, hE2, hR2, hb2⟩ := tq_rows hq2
      rw [HS2.out.1, HER.out]
      have HE2 := hid (hE2.trans HS2.out.2)
      have HW2 := hid hR2
      have HB2 := hid (vonto HV1.out hb2)
      have HX2 := hid (HX1.out.onto hb2)
      replace a1 := keepCell hb2 a1
      clear hq2 hE2 hR2 hb2 C2 HV1 HX1
      go_upto_region 20 with fail
      refine cwp_gen ?_
      intro V2 hV
      have b4 := box4 w2 (.int .i64 er) (.int .i64 x2) (.int .i64 y2) (.int .i64 z2)
      have hb : Below w2.heap.size w2 V2 := by rw [hV]; exact valloc_bel (Below.refl _ _) _
      rw [← hV] at b4
      obtain ⟨a2, -, -, -⟩ := b4
      have HV2 := hid (vonto HB2.out hb)
      have HX3 := hid (HX2.out.onto hb)
      have HY2 := hid (HW2.out.onto hb)
      replace a1 := keepCell hb a1
      clear hV hb HB2 HW2 HX2
      go_wp2_with fail
      go_at_call 9
      refine (C3.out _).mono ?_
      intro e w3 hq3
      obtain ⟨o3, n3, k3, E3, x3, y3, z3, rfl, hE3, hR3, hb3⟩ := tq_rows hq3
      rw [HS3.out.1, HER.out]
      have HE3 := hid (hE3.trans HS3.out.2)
      have HW3 := hid hR3
      have HB3 := hid (vonto HV2.out hb3)
      have HX4 := hid (HX3.out.onto hb3)
      have HY3 := hid (HY2.out.onto hb3)
      replace a1 := keepCell hb3 a1
      replace a2 := keepCell hb3 a2
      clear hq3 hE3 hR3 hb3 C3 HV2 HX3 HY2
      go_upto_region 21 with fail
      refine cwp_gen ?_
      intro V3 hV
      have b4 := box4 w3 (.int .i64 er) (.int .i64 x3) (.int .i64 y3) (.int .i64 z3)
      have hb : Below w3.heap.size w3 V3 := by rw [hV]; exact valloc_bel (Below.refl _ _) _
      rw [← hV] at b4
      obtain ⟨a3, -, -, -⟩ := b4
      have HV3 := hid (vonto HB3.out hb)
      have HX5 := hid (HX4.out.onto hb)
      have HY5 := hid (HY3.out.onto hb)
      have HZ5 := hid (HW3.out.onto hb)
      replace a1 := keepCell hb a1
      replace a2 := keepCell hb a2
      have CS1 := hid (crows_same E1 E2 _ _ _ _ V3 (by omega) HEr.out HX5.out HY5.out (HE1.out.trans HE2.out.symm))
      have CS2 := hid (fun X (hX : Below V3.heap.size V3 X) => crows_same E1 E3 _ _ _ _ X (by omega) HEr.out (HX5.out.onto hX) (HZ5.out.onto hX) (HE1.out.trans HE3.out.symm))
      clear hV hb HB3 HW3 HX4 HY3 HX5 HY5 HZ5 HE1 HE2 HE3 HS2 HS3 HER HEr hEl
      go_wp2_with fail
      go_at_call 13
      refine CS1.out.mono ?_
      rintro e w4 ⟨rfl, hb4⟩
      have C2' := hid (CS2.out w4 hb4)
      have HB4 := hid (vonto HV3.out hb4)
      clear CS1 CS2 hb4
      go_wp2_with fail
      go_at_call 13
      refine C2'.out.mono ?_
      rintro e w5 ⟨rfl, hb5⟩
      have HB5 := hid (vonto HB4.out hb5)
      clear hb5
      go_wp2_with fail
      go_ret
      exact ⟨rfl, HB5.out⟩
theorem Try.creadEnds_walk (ks : List ByteArray) (v : Value) (w : World) (h : InS w ks v) :
    Calls Try.prog 6 #[v] w fun e w' => e = .returned (.bool true) ∧ Below w.heap.size w w' := by
  obtain ⟨a, ⟨o, c, rfl, hc, -, ho⟩, hcell⟩ := h
  by_cases h1 : ks.length < 1
  · exact cends_out0 ks.length c o w (by omega)
  by_cases h2 : 20 < ks.length
  · exact cends_out1 ks.length c o w (by omega)
  obtain rfl := ho (by omega)
  exact cends_in ks a c w (by omega) (by omega) hc hcell
end Go.Proofs.Ytapclgjaalammaa
