/- The statement TlexFloats: walked. -/
import Derived.Test.YtdlideihlcjblaaGreatDoorL10A
import Derived.Test.YtdlideihlcjblaaGreatDoorMathFl
import Derived.Test.YtdlideihlcjblaaGreatDoorRefDecE
namespace Go.Proofs.YtdlideihlcjblaaGreatDoor
open Go.RowKit

theorem fapp (a b : ByteArray) : (a ++ b).data.toList = a.data.toList ++ b.data.toList := by simp
theorem nat95 (N : Nat) : ∀ b ∈ natD N, b.toNat ≠ 95 := fun b hb => by
  have := List.all_eq_true.1 (natD_all N) b hb
  have := isD_bd this
  omega
theorem txt95 (k : Int) : ∀ b ∈ txt k, b.toNat ≠ 95 := by
  rw [txt_form]
  intro b hb
  rcases List.mem_append.1 hb with h | h
  · split at h
    · simp at h; rw [h]; decide
    · cases h
  · exact nat95 _ b h
def fS (N P : Nat) : List UInt8 := natD N ++ (46 :: natD P)
theorem fS_head (N P : Nat) : ∃ a t, fS N P = a :: t ∧ isD a = true := by
  obtain ⟨a, t, e, h⟩ := natD_head N
  exact ⟨a, t ++ (46 :: natD P), by unfold fS; rw [e]; rfl, h⟩
theorem fS95 (N P : Nat) : ∀ b ∈ fS N P, b.toNat ≠ 95 := by
  intro b hb
  unfold fS at hb
  rcases List.mem_append.1 hb with h | h
  · exact nat95 _ b h
  · rcases List.mem_cons.1 h with rfl | h
    · decide
    · exact nat95 _ b h
theorem fS_len {N P : Nat} (hN : N < 9223372036854775808) (hP : P ≤ 99999) : (fS N P).length ≤ 30 := by
  have h1 := natD_short 18 N (by omega)
  have h2 := natD_short 4 P (by omega)
  unfold fS; simp; omega
theorem flA {N P : Nat} (hN : N < 9223372036854775808) (hP : P ≤ 99999) : tnR (43 :: fS N P) = leafT 3 0 (mkS (fS N P)) ∧ tnE (43 :: fS N P) = 0 := by
  obtain ⟨a, t, e, ha⟩ := fS_head N P
  have hu : unS (43 :: fS N P) = fS N P := rfl
  have hp : noP (43 :: fS N P) = fS N P := rfl
  obtain ⟨g1, g2, g3, g4, g5⟩ := parse_of false (natD N) (46 :: natD P) (natD P) [] (natD_all _) (natD_ne _) (natD_ok _) (Or.inr ⟨rfl, natD_ne _, natD_all _⟩) (Or.inl rfl) (fS N P) (by unfold fS; simp)
  have hn : numB (fS N P) = true := num_of g5 (by rw [g4]; decide) (by have := fS_len hN hP; omega)
  have hi : intB (fS N P) = false := by unfold intB; rw [g3, decide_eq_false (natD_ne P)]; simp
  have := tn_num (l := 43 :: fS N P) (by rw [hu, e]; exact inf_no ha) (by unfold bsB; rw [bt_cons]; rfl)
    (by rw [hu]; unfold fS; have := kd_dot (W := natD N) (F := natD P) (E := []) (natD_all _) (natD_ne _) (natD_ok _) (natD_all _) (natD_ne _) (Or.inl rfl); rw [List.append_nil] at this; exact this)
    (cln_self (fun b hb => by rcases List.mem_cons.1 hb with rfl | h; decide; exact fS95 N P b h)) (by rw [hp]; exact hn) (by rw [hp]; exact hi)
  rw [hp] at this; exact this
theorem flB {N P : Nat} {k : Int} (hN : N < 9223372036854775808) (hP : P ≤ 99999) (hk : -300 ≤ k ∧ k ≤ 300) : tnR (45 :: (fS N P ++ (101 :: txt k))) = leafT 3 0 (mkS (45 :: (fS N P ++ (101 :: txt k)))) ∧ tnE (45 :: (fS N P ++ (101 :: txt k))) = 0 := by
  obtain ⟨a, t, e, ha⟩ := fS_head N P
  have hu : unS (45 :: (fS N P ++ (101 :: txt k))) = fS N P ++ (101 :: txt k) := rfl
  have hp : noP (45 :: (fS N P ++ (101 :: txt k))) = 45 :: (fS N P ++ (101 :: txt k)) := rfl
  have hf : fS N P ++ (101 :: txt k) = natD N ++ (46 :: (natD P ++ (101 :: txt k))) := by unfold fS; simp
  obtain ⟨g1, g2, g3, g4, g5⟩ := parse_of true (natD N) (46 :: natD P) (natD P) (101 :: txt k) (natD_all _) (natD_ne _) (natD_ok _) (Or.inr ⟨rfl, natD_ne _, natD_all _⟩) (tail_txt 101 (Or.inl rfl) k) (45 :: (fS N P ++ (101 :: txt k))) (by unfold fS; simp)
  have hl := pow_short k (by omega)
  have hn : numB (45 :: (fS N P ++ (101 :: txt k))) = true := num_of g5 (by rw [g4]; exact (pwV_txt k (by omega)).2) (by have := fS_len hN hP; simp; omega)
  have hi : intB (45 :: (fS N P ++ (101 :: txt k))) = false := by unfold intB; rw [g3, decide_eq_false (natD_ne P)]; simp
  have := tn_num (l := 45 :: (fS N P ++ (101 :: txt k))) (by rw [hu, e]; exact inf_no ha) (by unfold bsB; rw [bt_cons]; rfl)
    (by rw [hu, hf]; exact kd_dot (natD_all _) (natD_ne _) (natD_ok _) (natD_all _) (natD_ne _) (Or.inr ⟨pw_txt 101 (Or.inl rfl) k, _, _, rfl, Or.inl rfl⟩))
    (cln_self (fun b hb => by
      rcases List.mem_cons.1 hb with rfl | h
      · decide
      · rcases List.mem_append.1 h with h | h
        · exact fS95 N P b h
        · rcases List.mem_cons.1 h with rfl | h
          · decide
          · exact txt95 k b h)) (by rw [hp]; exact hn) (by rw [hp]; exact hi)
  rw [hp] at this; exact this
theorem flC {N : Nat} (hN : N < 9223372036854775808) : tnR (natD N ++ [69, 43, 48]) = leafT 3 0 (mkS (natD N ++ [69, 43, 48])) ∧ tnE (natD N ++ [69, 43, 48]) = 0 := by
  obtain ⟨a, t, e, ha⟩ := natD_head N
  have hb := isD_bd ha
  have hu : unS (natD N ++ [69, 43, 48]) = natD N ++ [69, 43, 48] := by
    unfold unS sgA; rw [e, List.cons_append, bt_cons, decide_eq_false (by omega)]; rfl
  have hp : noP (natD N ++ [69, 43, 48]) = natD N ++ [69, 43, 48] := by
    unfold noP; rw [e, List.cons_append, bt_cons, if_neg (by omega)]
  obtain ⟨g1, g2, g3, g4, g5⟩ := parse_of false (natD N) [] [] [69, 43, 48] (natD_all _) (natD_ne _) (natD_ok _) (Or.inl ⟨rfl, rfl⟩) (Or.inr ⟨69, [43, 48], rfl, Or.inr rfl, by decide, by decide⟩) (natD N ++ [69, 43, 48]) (by simp)
  have hl := natD_short 18 N (by omega)
  have hn : numB (natD N ++ [69, 43, 48]) = true := num_of g5 (by rw [g4]; decide) (by simp; omega)
  have hi : intB (natD N ++ [69, 43, 48]) = false := by unfold intB; rw [g4]; simp
  have hbs : bsB (natD N ++ [69, 43, 48]) = 0 := by
    have h1 : ¬ (bt (natD N ++ [69, 43, 48]) 0 = 48 ∧ (bt (natD N ++ [69, 43, 48]) 1 = 120 ∨ bt (natD N ++ [69, 43, 48]) 1 = 111 ∨ bt (natD N ++ [69, 43, 48]) 1 = 98)) := by
      rintro ⟨k1, k2⟩
      have hd := natD_all N
      rw [e] at k1 k2 hd
      cases t with
      | nil =>
        have : bt ([a] ++ [69, 43, 48]) 1 = 69 := rfl
        omega
      | cons b t =>
        have e1 : bt (a :: b :: t ++ [69, 43, 48]) 1 = b.toNat := rfl
        rw [e1] at k2
        simp only [List.all_cons, Bool.and_eq_true] at hd
        have := isD_bd hd.2.1
        omega
    unfold bsB
    rw [if_neg (fun k => h1 ⟨k.1, Or.inl k.2.1⟩), if_neg (fun k => h1 ⟨k.1, Or.inr (Or.inl k.2.1)⟩), if_neg (fun k => h1 ⟨k.1, Or.inr (Or.inr k.2.1)⟩)]
  have := tn_num (l := natD N ++ [69, 43, 48]) (by rw [hu, e]; exact inf_no ha) hbs
    (by rw [hu]; exact kd_e (natD_all _) (natD_ne _) (natD_ok _) (by decide) ⟨69, [43, 48], rfl, Or.inr rfl⟩)
    (cln_self (fun b hb => by
      rcases List.mem_append.1 hb with h | h
      · exact nat95 _ b h
      · simp at h; rcases h with rfl | rfl | rfl <;> decide)) (by rw [hp]; exact hn) (by rw [hp]; exact hi)
  rw [hp] at this; exact this
theorem txt_nat (N : Nat) : txt (N : Int) = natD N := by unfold txt; rw [if_neg (by omega)]; rfl
set_option maxRecDepth 100000 in
set_option maxHeartbeats 8000000 in
theorem floats_in (N P : Nat) (k : Int) (hN : N < 9223372036854775808) (hP : P ≤ 99999) (hk : -300 ≤ k ∧ k ≤ 300) (w : World) (hg : GlobN w) :
    Calls Tryz.prog 8 #[.int .i64 (N : Int), .int .i64 (P : Int), .int .i64 k] w fun e w' => e = .returned (.bool true) ∧ Below w.heap.size w w' := by
  have CA := hid (awake10 w hg)
  have HG := hid hg
  have T1 := hid (fun X => text_any (N : Int) X (by omega) (by omega))
  have T2 := hid (fun X => text_any (P : Int) X (by omega) (by omega))
  have T3 := hid (fun X => text_any k X (by omega) (by omega))
  rw [txt_nat] at T1 T2
  have hk1 : ¬ k < -300 := by omega
  have hk2 : ¬ 300 < k := by omega
  have hn0 : ¬ (N : Int) < 0 := by omega
  have hp0 : ¬ (P : Int) < 0 := by omega
  have hp1 : ¬ 99999 < (P : Int) := by omega
  have z1 : (mkS (natD N)).size ≤ 19 := by rw [mkS_size]; exact natD_short 18 N (by omega)
  have z2 : (mkS (natD P)).size ≤ 5 := by rw [mkS_size]; exact natD_short 4 P (by omega)
  have z3 : (mkS (txt k)).size ≤ 7 := by rw [mkS_size]; exact pow_short k (by omega)
  have L1 := hid (mkS_list (natD N))
  have L2 := hid (mkS_list (natD P))
  have L3 := hid (mkS_list (txt k))
  have HA := hid (flA hN hP)
  have HBB := hid (flB hN hP hk)
  have HC := hid (flC hN)
  generalize mkS (natD N) = X1 at *
  generalize mkS (natD P) = X2 at *
  generalize mkS (txt k) = X3 at *
  clear hg
  go_enter Tryz.func8, Tryz.ntmps8
  go_wp2_with fail
  go_at_call 10
  refine CA.out.mono ?_
  rintro e w0 ⟨rfl, hb0⟩
  have HB0 := hid hb0
  clear hb0 CA
  go_upto_region 5 with fail
  clear hk1 hk2 hn0 hp0 hp1
  go_upto_region 7 with (go_at_call 23; go_must (first
    | ((with_reducible refine (T1.out _).mono ?_); rintro e w1 ⟨rfl, hb1⟩)
    | ((with_reducible refine (T2.out _).mono ?_); rintro e w2 ⟨rfl, hb2⟩)
    | ((with_reducible refine (T3.out _).mono ?_); rintro e w3 ⟨rfl, hb3⟩)))
  have HB3 := hid (eonto (eonto (eonto HB0.out hb1) hb2) hb3)
  clear hb1 hb2 hb3 HB0 T2 T3
  obtain ⟨SS, hSS⟩ : ∃ X, X1 ++ ⟨#[46]⟩ ++ X2 = X := ⟨_, rfl⟩
  obtain ⟨EE, hEE⟩ : ∃ X, ⟨#[101]⟩ ++ X3 = X := ⟨_, rfl⟩
  have LS : Hid (SS.data.toList = fS N P) := by
    show _ = _
    rw [← hSS]; simp only [fapp, L1.out, L2.out]; unfold fS; simp
  have LE : Hid (EE.data.toList = 101 :: txt k) := by
    show _ = _
    rw [← hEE]; simp only [fapp, L3.out]; rfl
  have zS : SS.size ≤ 25 := by
    rw [← size_list, LS.out]
    have h1 := natD_short 18 N (by omega)
    have h2 := natD_short 4 P (by omega)
    unfold fS; simp; omega
  have zE : EE.size ≤ 8 := by
    rw [← size_list, LE.out]; have := pow_short k (by omega); simp; omega
  rw [hSS, hEE]
  clear hSS hEE z2 z3
  have C1 : Hid (∀ X, Below w.heap.size w X → Calls Tryz.prog 11 #[.string (⟨#[43]⟩ ++ SS)] X fun e w' => e = .returned (.tuple #[.agg #[.int .i64 3, .int .i64 0, .string SS, nilS, nilS], .int .i64 0]) ∧ Below X.heap.size X w') := fun X h => by
    have := tnumber_any (⟨#[43]⟩ ++ SS) X (by rw [← size_list]; simp only [fapp, List.length_append, size_list]; show 1 + SS.size ≤ 1000000; omega) (HG.out.on h)
    have e : (⟨#[43]⟩ ++ SS).data.toList = 43 :: fS N P := by simp only [fapp, LS.out]; rfl
    rw [e, HA.out.1, HA.out.2, ← mkS_of SS _ LS.out] at this; exact this
  have C2 : Hid (∀ X, Below w.heap.size w X → Calls Tryz.prog 11 #[.string (⟨#[45]⟩ ++ SS ++ EE)] X fun e w' => e = .returned (.tuple #[.agg #[.int .i64 3, .int .i64 0, .string (⟨#[45]⟩ ++ SS ++ EE), nilS, nilS], .int .i64 0]) ∧ Below X.heap.size X w') := fun X h => by
    have := tnumber_any (⟨#[45]⟩ ++ SS ++ EE) X (by rw [← size_list]; simp only [fapp, List.length_append, size_list]; show 1 + SS.size + EE.size ≤ 1000000; omega) (HG.out.on h)
    have e : (⟨#[45]⟩ ++ SS ++ EE).data.toList = 45 :: (fS N P ++ (101 :: txt k)) := by simp only [fapp, LS.out, LE.out]; rfl
    rw [e, HBB.out.1, HBB.out.2, ← mkS_of (⟨#[45]⟩ ++ SS ++ EE) _ e] at this; exact this
  have C3 : Hid (∀ X, Below w.heap.size w X → Calls Tryz.prog 11 #[.string (X1 ++ ⟨#[69, 43, 48]⟩)] X fun e w' => e = .returned (.tuple #[.agg #[.int .i64 3, .int .i64 0, .string (X1 ++ ⟨#[69, 43, 48]⟩), nilS, nilS], .int .i64 0]) ∧ Below X.heap.size X w') := fun X h => by
    have := tnumber_any (X1 ++ ⟨#[69, 43, 48]⟩) X (by rw [← size_list]; simp only [fapp, List.length_append, size_list]; show X1.size + 3 ≤ 1000000; omega) (HG.out.on h)
    have e : (X1 ++ ⟨#[69, 43, 48]⟩).data.toList = natD N ++ [69, 43, 48] := by simp only [fapp, L1.out]
    rw [e, HC.out.1, HC.out.2, ← mkS_of (X1 ++ ⟨#[69, 43, 48]⟩) _ e] at this; exact this
  clear HA HBB HC HG L1 L2 L3 LS LE
  go_wp2_with fail
  go_at_call 11
  refine (C1.out _ HB3.out).mono ?_
  rintro e y1 ⟨rfl, hb⟩
  have HC1 := hid (vonto HB3.out hb)
  clear hb HB3
  go_upto_region 8 with fail
  refine wp_gen ?_
  intro V1 hW
  have hk := new_cells y1 [.int .i64 3, .int .i64 0, .string SS, .slice none 0 0, .slice none 0 0] 27
  have a0 : V1.cell? ⟨y1.heap.size, 0, none⟩ = some (.int .i64 3) := by rw [hW]; exact (addz _ 0) ▸ hk 0 _ rfl
  have a2 : V1.cell? ⟨y1.heap.size, 2, none⟩ = some (.string SS) := by rw [hW]; exact (addz _ 2) ▸ hk 2 _ rfl
  have hba : Below y1.heap.size y1 V1 := by rw [hW]; exact valloc_bel (Below.refl _ _) _
  have HD1 := hid (vonto HC1.out hba)
  clear hW hk hba HC1
  go_wp2_with fail
  go_at_call 11
  refine (C2.out _ HD1.out).mono ?_
  rintro e y2 ⟨rfl, hb⟩
  replace a0 := keepCell hb a0
  replace a2 := keepCell hb a2
  have HC2 := hid (vonto HD1.out hb)
  clear hb HD1
  go_upto_region 9 with fail
  refine wp_gen ?_
  intro V2 hW
  have hk := new_cells y2 [.int .i64 3, .int .i64 0, .string (⟨#[45]⟩ ++ SS ++ EE), .slice none 0 0, .slice none 0 0] 27
  have c2 : V2.cell? ⟨y2.heap.size, 2, none⟩ = some (.string (⟨#[45]⟩ ++ SS ++ EE)) := by rw [hW]; exact (addz _ 2) ▸ hk 2 _ rfl
  have hba : Below y2.heap.size y2 V2 := by rw [hW]; exact valloc_bel (Below.refl _ _) _
  replace a0 := keepCell hba a0
  replace a2 := keepCell hba a2
  have HD2 := hid (vonto HC2.out hba)
  clear hW hk hba HC2
  go_wp2_with fail
  go_at_call 23
  refine (T1.out _).mono ?_
  rintro e y0 ⟨rfl, hb⟩
  replace a0 := keepCell hb a0
  replace a2 := keepCell hb a2
  replace c2 := keepCell hb c2
  have HT9 := hid (vonto HD2.out hb)
  clear hb HD2
  go_wp2_with fail
  go_at_call 11
  refine (C3.out _ HT9.out).mono ?_
  rintro e y3 ⟨rfl, hb⟩
  replace a0 := keepCell hb a0
  replace a2 := keepCell hb a2
  replace c2 := keepCell hb c2
  have HC3 := hid (vonto HT9.out hb)
  clear hb HT9
  go_upto_region 10 with fail
  refine wp_gen ?_
  intro V3 hW
  have hk := new_cells y3 [.int .i64 3, .int .i64 0, .string (X1 ++ ⟨#[69, 43, 48]⟩), .slice none 0 0, .slice none 0 0] 27
  have d2 : V3.cell? ⟨y3.heap.size, 2, none⟩ = some (.string (X1 ++ ⟨#[69, 43, 48]⟩)) := by rw [hW]; exact (addz _ 2) ▸ hk 2 _ rfl
  have hba : Below y3.heap.size y3 V3 := by rw [hW]; exact valloc_bel (Below.refl _ _) _
  replace a0 := keepCell hba a0
  replace a2 := keepCell hba a2
  replace c2 := keepCell hba c2
  have HD3 := hid (vonto HC3.out hba)
  clear hW hk hba HC3
  have ya0 := above_cell a0
  have ya2 := above_cell a2
  have yc2 := above_cell c2
  have yd2 := above_cell d2
  clear a0 a2 c2 d2
  have hinh := abv_some V3
  refine wp_region_above (by kernel_rfl) (by kernel_rfl) ?_
  repeat (go_big_quiet_step ((go_at_call 23; with_reducible exact above_of (T1.out _))))
  refine wpQuiet_nil ?_
  intro _ hw'
  obtain ⟨X, hX⟩ := hw'
  subst hX
  go_wp2_with fail
  go_ret
  exact ⟨rfl, vonto HD3.out X.h⟩
theorem wf_bd {n : Int} (h : (Lit.int .i64 n).wf = true) : -9223372036854775808 ≤ n ∧ n < 9223372036854775808 := by
  simp [Lit.wf, IntKind.min, IntKind.max, IntKind.signed, IntKind.bits] at h; omega
set_option maxRecDepth 100000 in
set_option maxHeartbeats 4000000 in
theorem Tryz.tlexFloats_walk (n p k : Int) (w0 : (Lit.int .i64 n).wf = true) (_w1 : (Lit.int .i64 p).wf = true) (_w2 : (Lit.int .i64 k).wf = true) (w : World) (hg : GlobN w) :
    Calls Tryz.prog 8 #[.int .i64 n, .int .i64 p, .int .i64 k] w fun e w' => e = .returned (.bool true) ∧ Below w.heap.size w w' := by
  have hb := wf_bd w0
  by_cases hin : 0 ≤ n ∧ 0 ≤ p ∧ p ≤ 99999 ∧ -300 ≤ k ∧ k ≤ 300
  · obtain ⟨N, rfl⟩ : ∃ N : Nat, n = (N : Int) := ⟨n.toNat, by omega⟩
    obtain ⟨P, rfl⟩ : ∃ P : Nat, p = (P : Int) := ⟨p.toNat, by omega⟩
    exact floats_in N P k (by omega) (by omega) (by omega) w hg
  · have CA := hid (awake10 w hg)
    clear hb
    go_enter Tryz.func8, Tryz.ntmps8
    have hout : n < 0 ∨ (0 ≤ n ∧ p < 0) ∨ (0 ≤ n ∧ 0 ≤ p ∧ 99999 < p) ∨ (0 ≤ n ∧ 0 ≤ p ∧ p ≤ 99999 ∧ k < -300) ∨ (0 ≤ n ∧ 0 ≤ p ∧ p ≤ 99999 ∧ -300 ≤ k ∧ 300 < k) := by omega
    rcases hout with h | ⟨h1, h⟩ | ⟨h1, h2, h⟩ | ⟨h1, h2, h3, h⟩ | ⟨h1, h2, h3, h4, h⟩
    all_goals
      go_wp2_with (go_at_call 10; go_must (refine CA.out.mono ?_; rintro e w0 ⟨rfl, hb0⟩))
      go_ret
      exact ⟨rfl, hb0⟩
end Go.Proofs.YtdlideihlcjblaaGreatDoor
