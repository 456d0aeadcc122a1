/- tlex.refuse, plainString, stampEnd: walked. -/
import Derived.Test.YtlapefhnbbcmmaaGreatDoorXTlK
import Derived.Test.YtlapefhnbbcmmaaGreatDoorXTlF
namespace Go.Proofs.YtlapefhnbbcmmaaGreatDoor
open Go.RowKit

/-- a value without parts, where one goes on, an error, where it is -/
structure PR where
  v : VT
  n : Int
  e : Int
  b : Int
def PR.V (r : PR) : Value := .tuple #[vv r.v nilS nilS, .int .i64 r.n, .int .i64 r.e, .int .i64 r.b]
def noPR (e b : Int) : PR := ⟨zeroT, 0, e, b⟩
set_option maxRecDepth 100000 in
set_option maxHeartbeats 1000000 in
theorem trefuse_any (e a : Int) (w : World) :
    Calls Tryz.prog 23 #[.int .i64 e, .int .i64 a] w fun x w' => x = .returned (.tuple #[.agg #[.int .i64 0, .int .i64 0, .string ⟨#[]⟩, nilS, nilS], .int .i64 0, .int .i64 e, .int .i64 a]) ∧ Below w.heap.size w w' := by
  go_enter Tryz.func23, Tryz.ntmps23
  go_wp2_with fail
  refine bodyPost_ret (v := .tuple #[.agg #[.int .i64 0, .int .i64 0, .string ⟨#[]⟩, nilS, nilS], .int .i64 0, .int .i64 e, .int .i64 a]) (by simp [results, Tryz.results23, go_sem]) rfl ⟨rfl, ?_⟩
  repeat (first | exact Below.refl _ _ | apply valloc_bel | (refine vset_bel ?_ (by simp)))
def psT (T : List UInt8) (a : Nat) : PR :=
  if 0 ≤ (unqT T a).2.2 then noPR 4 (unqT T a).2.2 else if teI (mkS (unqT T a).1) ≠ 0 then noPR (teI (mkS (unqT T a).1)) a
  else ⟨leafT 4 0 (mkS (unqT T a).1), (unqT T a).2.1, 0, 0⟩
/-- what a string read is bounded by -/
theorem rd_len {E P : List UInt8 → List UInt8 × Nat} {T : List UInt8} (hE : Fits E) (hP : Fits P) : ∀ f i acc, acc.length ≤ i → (rd E P T f i acc).1.length ≤ T.length
  | 0, i, acc, _ => by rw [rd]; simp
  | f + 1, i, acc, h => by
    rw [rd]
    by_cases h1 : T.length ≤ i
    · rw [if_pos h1]; simp
    · rw [if_neg h1]
      by_cases h2 : 0 < (E (T.drop i)).2
      · rw [if_pos h2]
        have k := hE (T.drop i)
        rw [List.length_drop] at k
        simp only [List.length_append]; omega
      · rw [if_neg h2]
        by_cases h3 : (P (T.drop i)).2 = 0
        · rw [if_pos h3]; simp
        · rw [if_neg h3]
          have k := hP (T.drop i)
          exact rd_len hE hP f _ _ (by rw [List.length_append]; omega)
theorem unqT_len (T : List UInt8) (a : Nat) : (unqT T a).1.length ≤ T.length := by
  unfold unqT
  (repeat' split)
  · exact rd_len (fits_mE 34) fits_me _ _ _ (Nat.zero_le _)
  · exact rd_len (fits_mE 39) fits_mp _ _ _ (Nat.zero_le _)
  · exact rd_len (fits_oE 34 (by decide)) fits_oe _ _ _ (Nat.zero_le _)
  · exact rd_len (fits_oE 39 (by decide)) fits_op _ _ _ (Nat.zero_le _)
  · simp
set_option maxRecDepth 100000 in
set_option maxHeartbeats 4000000 in
theorem tpstr_any (t : ByteArray) (a : Nat) (w : World) (ht : t.size ≤ 1000000) :
    Calls Tryz.prog 25 #[.string t, .int .i64 (a : Int)] w fun e w' => e = .returned (psT t.data.toList a).V ∧ Below w.heap.size w w' := by
  have CU := hid (fun X => tunq_any t (a : Int) X ht)
  have CF := hid (fun e b X => trefuse_any e b X)
  have hl := unqT_len t.data.toList a
  rw [size_list] at hl
  have CS := hid (fun X => vstr_any (mkS (unqT t.data.toList a).1) X (by rw [mkS_size]; exact max_le (by omega)))
  have HR : Hid (psT t.data.toList a = if 0 ≤ (unqT t.data.toList a).2.2 then noPR 4 (unqT t.data.toList a).2.2 else if teI (mkS (unqT t.data.toList a).1) ≠ 0 then noPR (teI (mkS (unqT t.data.toList a).1)) a else ⟨leafT 4 0 (mkS (unqT t.data.toList a).1), (unqT t.data.toList a).2.1, 0, 0⟩) := rfl
  have HS : Hid (strR (mkS (unqT t.data.toList a).1) = if teI (mkS (unqT t.data.toList a).1) = 0 then leafT 4 0 (mkS (unqT t.data.toList a).1) else zeroT) := rfl
  generalize psT t.data.toList a = R at *
  generalize (unqT t.data.toList a).2.2 = bad at *
  generalize (unqT t.data.toList a).2.1 = nx at *
  generalize mkS (unqT t.data.toList a).1 = m at *
  generalize strR m = SR at *
  generalize teI m = z at *
  clear hl
  by_cases hbad : 0 ≤ bad
  · rw [if_pos hbad] at HR
    go_enter Tryz.func25, Tryz.ntmps25
    go_wp2_with fail
    go_at_call 58
    refine (CU.out _).mono ?_
    rintro e w1 ⟨rfl, hb1⟩
    have R1 := hid (box_row hb1)
    have HB1 := hid (vonto (valloc_bel (Below.refl w.heap.size w) _) hb1)
    clear hb1
    go_wp2_with fail
    go_at_call 23
    refine (CF.out _ _ _).mono ?_
    rintro e w3 ⟨rfl, hb3⟩
    have R0 := hid (R1.out.onto (hb3.block _ R1.out.lt))
    have HB3 := hid (vonto HB1.out hb3)
    clear hb3 R1 HB1
    obtain ⟨u0, e0⟩ := R0.out.cell (o := 0) (by decide)
    obtain ⟨u1, e1⟩ := R0.out.cell (o := 1) (by decide)
    obtain ⟨u2, e2⟩ := R0.out.cell (o := 2) (by decide)
    obtain ⟨u3, e3⟩ := R0.out.cell (o := 3) (by decide)
    obtain ⟨u4, e4⟩ := R0.out.cell (o := 4) (by decide)
    have z0 := R0.out.frozen
    go_wp2_with fail
    refine bodyPost_ret (v := .tuple #[.agg #[.int .i64 0, .int .i64 0, .string ⟨#[]⟩, nilS, nilS], .int .i64 0, .int .i64 4, .int .i64 bad]) (by simp [results, Tryz.results25, go_sem, e0, e1, e2, e3, e4]) rfl ⟨by rw [HR.out]; rfl, ?_⟩
    repeat (first | exact HB3.out | (refine vset_bel ?_ (by simp)))
  · rw [if_neg hbad] at HR
    have hbad2 : bad < 0 := by omega
    by_cases hz : z = 0
    · have tz : (z != 0) = false := by simpa using hz
      rw [if_neg (fun k => k hz)] at HR
      rw [if_pos hz] at HS
      rw [HS.out] at CS
      simp only [vv, leafT, VT.kd, VT.nm, VT.st] at CS
      clear hz HS hbad
      go_enter Tryz.func25, Tryz.ntmps25
      go_wp2_with fail
      go_at_call 58
      refine (CU.out _).mono ?_
      rintro e w1 ⟨rfl, hb1⟩
      have R1 := hid (box_row hb1)
      have HB1 := hid (vonto (valloc_bel (Below.refl w.heap.size w) _) hb1)
      clear hb1
      go_wp2_with fail
      go_at_call 59
      refine (CS.out _).mono ?_
      rintro e w2 ⟨rfl, hb2⟩
      have R2 := hid (R1.out.onto (hb2.block _ R1.out.lt))
      have HB2 := hid (vonto HB1.out hb2)
      clear hb2 R1 HB1
      go_upto_region 5 with fail
      refine wp_gen ?_
      intro W hW
      have R0 : Hid (Row W w.heap.size 27 5) := by rw [hW]; exact R2.out.onto (((Below.refl w2.heap.size w2).alloc (Nat.le_refl _) _).block _ R2.out.lt)
      have HB3 : Hid (Below w.heap.size w W) := by rw [hW]; exact valloc_bel HB2.out _
      have hk := new_cells w2 [.int .i64 4, .int .i64 0, .string m, .slice none 0 0, .slice none 0 0] 27
      have b0 : W.cell? ⟨w2.heap.size, 0, none⟩ = some (.int .i64 4) := by rw [hW]; exact (addz _ 0) ▸ hk 0 _ rfl
      have b1 : W.cell? ⟨w2.heap.size, 1, none⟩ = some (.int .i64 0) := by rw [hW]; exact (addz _ 1) ▸ hk 1 _ rfl
      have b2 : W.cell? ⟨w2.heap.size, 2, none⟩ = some (.string m) := by rw [hW]; exact (addz _ 2) ▸ hk 2 _ rfl
      have b3 : W.cell? ⟨w2.heap.size, 3, none⟩ = some (nilS) := by rw [hW]; exact (addz _ 3) ▸ hk 3 _ rfl
      have b4 : W.cell? ⟨w2.heap.size, 4, none⟩ = some (nilS) := by rw [hW]; exact (addz _ 4) ▸ hk 4 _ rfl
      clear hW hk R2 HB2
      obtain ⟨u0, e0⟩ := R0.out.cell (o := 0) (by decide)
      obtain ⟨u1, e1⟩ := R0.out.cell (o := 1) (by decide)
      obtain ⟨u2, e2⟩ := R0.out.cell (o := 2) (by decide)
      obtain ⟨u3, e3⟩ := R0.out.cell (o := 3) (by decide)
      obtain ⟨u4, e4⟩ := R0.out.cell (o := 4) (by decide)
      have z0 := R0.out.frozen
      go_wp2_with fail
      refine bodyPost_ret (v := .tuple #[.agg #[.int .i64 4, .int .i64 0, .string m, nilS, nilS], .int .i64 (nx : Nat), .int .i64 0, .int .i64 0]) (by simp [results, Tryz.results25, go_sem, e0, e1, e2, e3, e4]) rfl ⟨by rw [HR.out]; rfl, ?_⟩
      repeat (first | exact HB3.out | (refine vset_bel ?_ (by simp)))
    · have tz : (z != 0) = true := by simpa using hz
      rw [if_pos hz] at HR
      rw [if_neg hz] at HS
      rw [HS.out] at CS
      simp only [vv, zeroT, VT.kd, VT.nm, VT.st] at CS
      clear hz HS hbad
      go_enter Tryz.func25, Tryz.ntmps25
      go_wp2_with fail
      go_at_call 58
      refine (CU.out _).mono ?_
      rintro e w1 ⟨rfl, hb1⟩
      have R1 := hid (box_row hb1)
      have HB1 := hid (vonto (valloc_bel (Below.refl w.heap.size w) _) hb1)
      clear hb1
      go_wp2_with fail
      go_at_call 59
      refine (CS.out _).mono ?_
      rintro e w2 ⟨rfl, hb2⟩
      have R2 := hid (R1.out.onto (hb2.block _ R1.out.lt))
      have HB2 := hid (vonto HB1.out hb2)
      clear hb2 R1 HB1
      go_upto_region 5 with fail
      refine wp_gen ?_
      intro W hW
      have RW : Hid (Row W w.heap.size 27 5) := by rw [hW]; exact R2.out.onto (((Below.refl w2.heap.size w2).alloc (Nat.le_refl _) _).block _ R2.out.lt)
      have HBW : Hid (Below w.heap.size w W) := by rw [hW]; exact valloc_bel HB2.out _
      clear hW R2 HB2
      go_wp2_with fail
      go_at_call 23
      refine (CF.out _ _ _).mono ?_
      rintro e w3 ⟨rfl, hb3⟩
      have R0 := hid (RW.out.onto (hb3.block _ RW.out.lt))
      have HB3 := hid (vonto HBW.out hb3)
      clear hb3 RW HBW
      obtain ⟨u0, e0⟩ := R0.out.cell (o := 0) (by decide)
      obtain ⟨u1, e1⟩ := R0.out.cell (o := 1) (by decide)
      obtain ⟨u2, e2⟩ := R0.out.cell (o := 2) (by decide)
      obtain ⟨u3, e3⟩ := R0.out.cell (o := 3) (by decide)
      obtain ⟨u4, e4⟩ := R0.out.cell (o := 4) (by decide)
      have z0 := R0.out.frozen
      go_wp2_with fail
      refine bodyPost_ret (v := .tuple #[.agg #[.int .i64 0, .int .i64 0, .string ⟨#[]⟩, nilS, nilS], .int .i64 0, .int .i64 z, .int .i64 (a : Nat)]) (by simp [results, Tryz.results25, go_sem, e0, e1, e2, e3, e4]) rfl ⟨by rw [HR.out]; rfl, ?_⟩
      repeat (first | exact HB3.out | (refine vset_bel ?_ (by simp)))
/-- the bytes between two places -/
def slc (T : List UInt8) (a b : Nat) : List UInt8 := (T.drop a).take (b - a)
theorem slc_ext (t : ByteArray) (a b : Nat) : (t.extract a b).data.toList = slc t.data.toList a b := drop_ext t a b
/-- where the stamp ends that stands at a place -/
def seE (T : List UInt8) (n : Nat) : Nat := n + 1 + run rowC (T.drop (n + 1))
def seB (T : List UInt8) (a n : Nat) : Bool := dayB (slc T a n) && decide (bt T n = 32) && stB (slc T a (seE T n))
def seT (T : List UInt8) (a n : Nat) : Nat × Bool := if seB T a n = true then (seE T n, true) else (n, stB (slc T a n))
theorem row_in (cs : ByteArray) (h : (List.range 256).all (fun n => cs.data.toList.contains (UInt8.ofNat n) == rowC (UInt8.ofNat n)) = true) : (fun b => cs.data.toList.contains b) = rowC := funext (byte_eq _ _ h)
theorem ret_nb {a b : Int} {c d : Bool} (h : a = b) (g : c = d) : Ending.returned (.tuple #[.int .i64 a, .bool c]) = .returned (.tuple #[.int .i64 b, .bool d]) := by rw [h, g]
set_option maxRecDepth 100000 in
set_option maxHeartbeats 4000000 in
theorem tstend_any (t : ByteArray) (a n : Nat) (w : World) (ht : t.size ≤ 1000000) (han : a ≤ n) (hn : n ≤ t.size) (hg : GlobM w) :
    Calls Tryz.prog 28 #[.string t, .int .i64 (a : Int), .int .i64 (n : Int)] w fun e w' => e = .returned (.tuple #[.int .i64 ((seT t.data.toList a n).1 : Nat), .bool (seT t.data.toList a n).2]) ∧ Below w.heap.size w w' := by
  have HZ := hid (size_list t)
  have hx : (t.extract a n).size ≤ 1000000 := by simp; omega
  have CD := hid (fun X => tday_any (t.extract a n) X hx)
  rw [slc_ext] at CD
  have C1 := hid (fun X (h : Below w.heap.size w X) => tstamp_any (t.extract a n) X hx (hg.on h))
  rw [slc_ext] at C1
  have CH : Hid (∀ X, Calls Tryz.prog 45 #[.string (t.extract n t.size), .string ⟨#[32]⟩] X fun e w' => e = .returned (.bool (decide (bt t.data.toList n = 32))) ∧ w' = X) := fun X => by
    have := Tryz.strings_HasPrefix (t.extract n t.size) ⟨#[32]⟩ X
    rw [show (⟨#[32]⟩ : ByteArray).data.toList = [32] from rfl, hp1, drop_list, bt_drop, Nat.add_zero] at this; exact this
  have HR : Hid (seT t.data.toList a n = if (dayB (slc t.data.toList a n) && decide (bt t.data.toList n = 32) && stB (slc t.data.toList a (seE t.data.toList n))) = true then (seE t.data.toList n, true) else (n, stB (slc t.data.toList a n))) := rfl
  have HLT : Hid (decide (bt t.data.toList n = 32) = true → n + 1 ≤ t.size) := fun h => by
    have := bt_lt (l := t.data.toList) (k := n) (by rw [of_decide_eq_true h]; decide)
    rw [HZ.out] at this; omega
  have CR := hid (fun (h : n + 1 ≤ t.size) (cs : ByteArray) hp hc ha X => trowEnd_of t (n + 1) cs rowC hp hc ha X ht h)
  have HEL : Hid (n + 1 ≤ t.size → seE t.data.toList n ≤ t.size) := fun h => by
    have := run_leE rowC (t.data.toList.drop (n + 1))
    rw [List.length_drop, HZ.out] at this
    unfold seE; omega
  have C2 : Hid (n + 1 ≤ t.size → ∀ X, Below w.heap.size w X → Calls Tryz.prog 8 #[.string (t.extract a (seE t.data.toList n))] X fun e w' => e = .returned (.bool (stB (slc t.data.toList a (seE t.data.toList n)))) ∧ Below X.heap.size X w') := fun h X hX => by
    have := tstamp_any (t.extract a (seE t.data.toList n)) X (by have := HEL.out h; simp; omega) (hg.on hX)
    rw [slc_ext] at this; exact this
  have hse : n + 1 + run rowC (t.data.toList.drop (n + 1)) = seE t.data.toList n := rfl
  rw [hse] at CR
  have hge : n + 1 ≤ seE t.data.toList n := by unfold seE; omega
  generalize seT t.data.toList a n = R at *
  generalize stB (slc t.data.toList a (seE t.data.toList n)) = s2 at *
  generalize seE t.data.toList n = E at *
  generalize stB (slc t.data.toList a n) = s1 at *
  generalize dayB (slc t.data.toList a n) = d at *
  generalize decide (bt t.data.toList n = 32) = sp at *
  clear hg hse hx
  cases d with
  | false =>
    rw [Bool.false_and, Bool.false_and, if_neg (by decide)] at HR
    go_enter Tryz.func28, Tryz.ntmps28
    go_wp2_with (first
      | (go_at_call 29; go_must (refine (CD.out _).mono ?_; rintro e w1 ⟨rfl, hb1⟩))
      | (go_at_call 8; go_must (refine (C1.out _ hb1).mono ?_; rintro e w2 ⟨rfl, hb2⟩)))
    go_ret2
    exact ⟨ret_nb (by rw [HR.out]) (by rw [HR.out]), eonto hb1 hb2⟩
  | true =>
    cases sp with
    | false =>
      rw [Bool.and_false, Bool.false_and, if_neg (by decide)] at HR
      go_enter Tryz.func28, Tryz.ntmps28
      go_wp2_with (first
        | (go_at_call 29; go_must (refine (CD.out _).mono ?_; rintro e w1 ⟨rfl, hb1⟩))
        | (go_at_call 45; go_must (refine (CH.out _).mono ?_; rintro e w3 ⟨rfl, hw⟩; obtain rfl := hw.symm))
        | (go_at_call 8; go_must (refine (C1.out _ hb1).mono ?_; rintro e w2 ⟨rfl, hb2⟩)))
      go_ret2
      exact ⟨ret_nb (by rw [HR.out]) (by rw [HR.out]), eonto hb1 hb2⟩
    | true =>
      have hn1 := HLT.out rfl
      have hE := HEL.out hn1
      have CR2 := hid (CR.out hn1)
      have C22 := hid (C2.out hn1)
      have haE : a ≤ E := by omega
      rw [Bool.and_true, Bool.true_and] at HR
      have en : ((n + 1 : Nat) : Int) = (n : Int) + 1 := by omega
      rw [en] at CR2
      clear CR C2 HEL HLT
      cases s2 with
      | true =>
        rw [if_pos rfl] at HR
        go_enter Tryz.func28, Tryz.ntmps28
        go_wp2_with (first
          | (go_at_call 29; go_must (refine (CD.out _).mono ?_; rintro e w1 ⟨rfl, hb1⟩))
          | (go_at_call 45; go_must (refine (CH.out _).mono ?_; rintro e w3 ⟨rfl, hw⟩; obtain rfl := hw.symm))
          | (go_at_call 26; go_must (refine (CR2.out _ (row_in _ (by decide +kernel)) (by decide) (ascii_of _ (by decide)) _).mono ?_; rintro e w4 ⟨rfl, hb4⟩))
          | (go_at_call 8; go_must (refine (C22.out _ (eonto hb1 hb4)).mono ?_; rintro e w5 ⟨rfl, hb5⟩)))
        go_ret2
        exact ⟨ret_nb (by rw [HR.out]) (by rw [HR.out]), eonto (eonto hb1 hb4) hb5⟩
      | false =>
        rw [if_neg (by decide)] at HR
        go_enter Tryz.func28, Tryz.ntmps28
        go_wp2_with (first
          | (go_at_call 29; go_must (refine (CD.out _).mono ?_; rintro e w1 ⟨rfl, hb1⟩))
          | (go_at_call 45; go_must (refine (CH.out _).mono ?_; rintro e w3 ⟨rfl, hw⟩; obtain rfl := hw.symm))
          | (go_at_call 26; go_must (refine (CR2.out _ (row_in _ (by decide +kernel)) (by decide) (ascii_of _ (by decide)) _).mono ?_; rintro e w4 ⟨rfl, hb4⟩))
          | (go_at_call 8; go_must (first | ((with_reducible refine (C22.out _ (eonto hb1 hb4)).mono ?_); rintro e w5 ⟨rfl, hb5⟩) | ((with_reducible refine (C1.out _ (eonto (eonto hb1 hb4) hb5)).mono ?_); rintro e w6 ⟨rfl, hb6⟩))))
        go_ret2
        exact ⟨ret_nb (by rw [HR.out]) (by rw [HR.out]), eonto (eonto (eonto hb1 hb4) hb5) hb6⟩
end Go.Proofs.YtlapefhnbbcmmaaGreatDoor
