/- tlex.Plain: walked. -/
import Derived.Test.YtlapefhnbbcmmaaGreatDoorXTlM
namespace Go.Proofs.YtlapefhnbbcmmaaGreatDoor
open Go.RowKit

theorem in_qq (b : UInt8) : inT [34, 39] b = decide (b.toNat = 34 ∨ b.toNat = 39) := byte_eq _ (fun b => decide (b.toNat = 34 ∨ b.toNat = 39)) (by decide +kernel) b
theorem tamong_qq (b : UInt8) (w : World) :
    Calls Tryz.prog 24 #[.string ⟨#[34, 39]⟩, .int .u8 (b.toNat : Int)] w fun e w' => e = .returned (.bool (decide (b.toNat = 34 ∨ b.toNat = 39))) ∧ w' = w :=
  tamong_of _ (fun b => decide (b.toNat = 34 ∨ b.toNat = 39)) in_qq b w
set_option maxRecDepth 100000 in
set_option maxHeartbeats 400000 in
theorem tbool_any (b : Bool) (w : World) :
    Calls Tryz.prog 27 #[.bool b] w fun e w' => e = .returned (.agg #[.int .i64 1, .int .i64 (if b = true then 1 else 0), .string ⟨#[]⟩, nilS, nilS]) ∧ Below w.heap.size w w' := by
  cases b
  · go_enter Tryz.func27, Tryz.ntmps27
    go_wp2_with fail
    refine bodyPost_ret (v := .agg #[.int .i64 1, .int .i64 0, .string ⟨#[]⟩, nilS, nilS]) (by simp [results, Tryz.results27, go_sem]) rfl ⟨rfl, ?_⟩
    repeat (first | exact Below.refl _ _ | apply valloc_bel | (refine vset_bel ?_ (by simp)))
  · go_enter Tryz.func27, Tryz.ntmps27
    go_wp2_with fail
    refine bodyPost_ret (v := .agg #[.int .i64 1, .int .i64 1, .string ⟨#[]⟩, nilS, nilS]) (by simp [results, Tryz.results27, go_sem]) rfl ⟨rfl, ?_⟩
    repeat (first | exact Below.refl _ _ | apply valloc_bel | (refine vset_bel ?_ (by simp)))
/-- a value without parts that is no string, at a place -/
def plE (T : List UInt8) (n : Nat) : Nat := n + run rowC (T.drop n)
def plW (T : List UInt8) (n : Nat) : List UInt8 := slc T n (plE T n)
def plQ (T : List UInt8) (n : Nat) : PR :=
  if plW T n = [116, 114, 117, 101] then ⟨leafT 1 1 ⟨#[]⟩, (plE T n : Nat), 0, 0⟩
  else if plW T n = [102, 97, 108, 115, 101] then ⟨leafT 1 0 ⟨#[]⟩, (plE T n : Nat), 0, 0⟩
  else if (seT T n (plE T n)).2 = true then ⟨stampR (mkS (slc T n (seT T n (plE T n)).1)), ((seT T n (plE T n)).1 : Nat), 0, 0⟩
  else if tnE (plW T n) ≠ 0 then noPR (tnE (plW T n)) (n : Nat) else ⟨tnR (plW T n), (plE T n : Nat), 0, 0⟩
def plN (T : List UInt8) (n : Nat) : PR := if bt T n = 34 ∨ bt T n = 39 then psT T n else plQ T n
def plT (T : List UInt8) (a : Int) : PR := if a ≠ plc T a then noPR 4 (plc T a) else plN T a.toNat
theorem PR.parts (r : PR) : ∃ k n s, r.V = .tuple #[.agg #[.int .i64 k, .int .i64 n, .string s, nilS, nilS], .int .i64 r.n, .int .i64 r.e, .int .i64 r.b] := ⟨_, _, _, rfl⟩
theorem seT_le (T : List UInt8) (a n : Nat) (h : n ≤ T.length) : n ≤ (seT T a n).1 ∧ (seT T a n).1 ≤ T.length := by
  unfold seT
  split
  · next k =>
    unfold seB at k
    simp only [Bool.and_eq_true, decide_eq_true_eq] at k
    have := bt_lt (l := T) (k := n) (by rw [k.1.2]; decide)
    have h2 := run_leE rowC (T.drop (n + 1))
    rw [List.length_drop] at h2
    unfold seE; simp only; omega
  · exact ⟨Nat.le_refl _, h⟩
set_option maxRecDepth 100000 in
set_option maxHeartbeats 8000000 in
theorem tplainQ (t : ByteArray) (n : Nat) (w : World) (ht : t.size ≤ 1000000) (hn : n ≤ t.size) (hq : ¬ (bt t.data.toList n = 34 ∨ bt t.data.toList n = 39)) (hg : GlobN w) :
    Calls Tryz.prog 7 #[.string t, .int .i64 (n : Int)] w fun e w' => e = .returned (plQ t.data.toList n).V ∧ Below w.heap.size w w' := by
  have HZ := hid (size_list t)
  have CC := hid (fun X => tclamp_any t (n : Int) X)
  have hpl : plc t.data.toList (n : Int) = (n : Int) := by unfold plc; rw [HZ.out, if_neg (by omega), if_neg (by omega)]
  rw [hpl] at CC
  have CR := hid (fun (cs : ByteArray) hp hc ha X => trowEnd_of t n cs rowC hp hc ha X ht hn)
  have hple : n + run rowC (t.data.toList.drop n) = plE t.data.toList n := rfl
  rw [hple] at CR
  have hpe : n ≤ plE t.data.toList n ∧ plE t.data.toList n ≤ t.size := by
    have := run_leE rowC (t.data.toList.drop n)
    rw [List.length_drop, HZ.out] at this
    unfold plE; omega
  obtain ⟨hp1, hp2⟩ := hpe
  have CSE := hid (fun X (h : Below w.heap.size w X) => tstend_any t n (plE t.data.toList n) X ht hp1 hp2 (hg.t.m.on h))
  have CN := hid (fun X (h : Below w.heap.size w X) => tnumber_any (t.extract n (plE t.data.toList n)) X (by simp; omega) (hg.on h))
  rw [slc_ext] at CN
  have q1 := str_eq (t.extract n (plE t.data.toList n)) _ (slc_ext _ _ _) [116, 114, 117, 101]
  have q2 := str_eq (t.extract n (plE t.data.toList n)) _ (slc_ext _ _ _) [102, 97, 108, 115, 101]
  have CB := hid (fun b X => tbool_any b X)
  have CF := hid (fun e b X => trefuse_any e b X)
  have HR : Hid (plQ t.data.toList n = if plW t.data.toList n = [116, 114, 117, 101] then ⟨leafT 1 1 ⟨#[]⟩, (plE t.data.toList n : Nat), 0, 0⟩ else if plW t.data.toList n = [102, 97, 108, 115, 101] then ⟨leafT 1 0 ⟨#[]⟩, (plE t.data.toList n : Nat), 0, 0⟩ else if (seT t.data.toList n (plE t.data.toList n)).2 = true then ⟨stampR (mkS (slc t.data.toList n (seT t.data.toList n (plE t.data.toList n)).1)), ((seT t.data.toList n (plE t.data.toList n)).1 : Nat), 0, 0⟩ else if tnE (plW t.data.toList n) ≠ 0 then noPR (tnE (plW t.data.toList n)) (n : Nat) else ⟨tnR (plW t.data.toList n), (plE t.data.toList n : Nat), 0, 0⟩) := rfl
  have hw0 : slc t.data.toList n (plE t.data.toList n) = plW t.data.toList n := rfl
  rw [hw0] at q1 q2 CN
  obtain ⟨hs1, hs2⟩ := seT_le t.data.toList n (plE t.data.toList n) (by rw [HZ.out]; exact hp2)
  rw [HZ.out] at hs2
  have hsx : (t.extract n (seT t.data.toList n (plE t.data.toList n)).1).size ≤ 1000000 := by simp; omega
  have CCL := hid (fun X => tclone_any (t.extract n (seT t.data.toList n (plE t.data.toList n)).1) X hsx)
  have CST := hid (fun X => vstamp_any (t.extract n (seT t.data.toList n (plE t.data.toList n)).1) X (max_le hsx))
  have hse : t.extract n (seT t.data.toList n (plE t.data.toList n)).1 = mkS (slc t.data.toList n (seT t.data.toList n (plE t.data.toList n)).1) := mkS_of _ _ (slc_ext _ _ _)
  rw [← hse] at HR
  have hns : n ≤ (seT t.data.toList n (plE t.data.toList n)).1 := by omega
  clear hg hpl hple hw0 hse hsx
  generalize plQ t.data.toList n = R at *
  generalize (seT t.data.toList n (plE t.data.toList n)).1 = E at *
  generalize (seT t.data.toList n (plE t.data.toList n)).2 = ok at *
  generalize plE t.data.toList n = N at *
  generalize plW t.data.toList n = row at *
  generalize tnE row = ne at *
  generalize tnR row = nr at *
  have AMQ : Hid (n < t.size → ∀ h : n < t.size, ∀ X, Calls Tryz.prog 24 #[.string ⟨#[34, 39]⟩, .int .u8 (t[n].toNat : Int)] X fun e w' => e = .returned (.bool false) ∧ w' = X) := fun _ h X => by
    have := tamong_qq t[n] X
    rw [decide_eq_false (by rw [← bt_at t n h]; exact hq)] at this; exact this
  clear hq
  by_cases h1 : row = [116, 114, 117, 101]
  · rw [decide_eq_true h1] at q1
    rw [if_pos h1] at HR
    clear h1 q2 CSE CN CCL CST
    rcases Nat.lt_or_ge n t.size with hlt | hlt
    · have CA := hid (AMQ.out hlt hlt)
      have hbn := t[n].toNat_lt
      have hlt2 : n < t.size := hlt
      go_enter Tryz.func7, Tryz.ntmps7
      go_wp2_with (first | (go_at_call 22; go_must (refine (CC.out _).mono ?_; rintro e wc ⟨rfl, hw⟩; obtain rfl := hw.symm)) | (go_at_call 24; go_must (refine (CA.out _).mono ?_; rintro e wc ⟨rfl, hw⟩; obtain rfl := hw.symm)))
      go_at_call 26
      refine (CR.out _ (row_in _ (by decide +kernel)) (by decide) (ascii_of _ (by decide)) _).mono ?_
      rintro e w1 ⟨rfl, hb1⟩
      have R1 := hid (box_row hb1)
      have HB1 := hid (vonto (valloc_bel (Below.refl w.heap.size w) _) hb1)
      clear hb1
      go_wp2_with fail
      go_at_call 27
      refine (CB.out _ _).mono ?_
      rintro e w3 ⟨rfl, hb3⟩
      have R0 := hid (R1.out.onto (hb3.block _ R1.out.lt))
      have HB3 := hid (vonto HB1.out hb3)
      clear hb3 R1 HB1
      obtain ⟨u0, e0⟩ := R0.out.cell (o := 0) (by decide)
      obtain ⟨u1, e1⟩ := R0.out.cell (o := 1) (by decide)
      obtain ⟨u2, e2⟩ := R0.out.cell (o := 2) (by decide)
      obtain ⟨u3, e3⟩ := R0.out.cell (o := 3) (by decide)
      obtain ⟨u4, e4⟩ := R0.out.cell (o := 4) (by decide)
      have z0 := R0.out.frozen
      go_wp2_with fail
      refine bodyPost_ret (v := .tuple #[.agg #[.int .i64 1, .int .i64 1, .string ⟨#[]⟩, nilS, nilS], .int .i64 (N : Nat), .int .i64 0, .int .i64 0]) (by simp [results, Tryz.results7, go_sem, e0, e1, e2, e3, e4]) rfl ⟨by rw [HR.out]; rfl, ?_⟩
      repeat (first | exact HB3.out | (refine vset_bel ?_ (by simp)))
    · have hlt2 : ¬ (n : Int) < (t.size : Int) := by omega
      go_enter Tryz.func7, Tryz.ntmps7
      go_wp2_with ((go_at_call 22; go_must (refine (CC.out _).mono ?_; rintro e wc ⟨rfl, hw⟩; obtain rfl := hw.symm)))
      go_at_call 26
      refine (CR.out _ (row_in _ (by decide +kernel)) (by decide) (ascii_of _ (by decide)) _).mono ?_
      rintro e w1 ⟨rfl, hb1⟩
      have R1 := hid (box_row hb1)
      have HB1 := hid (vonto (valloc_bel (Below.refl w.heap.size w) _) hb1)
      clear hb1
      go_wp2_with fail
      go_at_call 27
      refine (CB.out _ _).mono ?_
      rintro e w3 ⟨rfl, hb3⟩
      have R0 := hid (R1.out.onto (hb3.block _ R1.out.lt))
      have HB3 := hid (vonto HB1.out hb3)
      clear hb3 R1 HB1
      obtain ⟨u0, e0⟩ := R0.out.cell (o := 0) (by decide)
      obtain ⟨u1, e1⟩ := R0.out.cell (o := 1) (by decide)
      obtain ⟨u2, e2⟩ := R0.out.cell (o := 2) (by decide)
      obtain ⟨u3, e3⟩ := R0.out.cell (o := 3) (by decide)
      obtain ⟨u4, e4⟩ := R0.out.cell (o := 4) (by decide)
      have z0 := R0.out.frozen
      go_wp2_with fail
      refine bodyPost_ret (v := .tuple #[.agg #[.int .i64 1, .int .i64 1, .string ⟨#[]⟩, nilS, nilS], .int .i64 (N : Nat), .int .i64 0, .int .i64 0]) (by simp [results, Tryz.results7, go_sem, e0, e1, e2, e3, e4]) rfl ⟨by rw [HR.out]; rfl, ?_⟩
      repeat (first | exact HB3.out | (refine vset_bel ?_ (by simp)))
  · rw [decide_eq_false h1] at q1
    rw [if_neg h1] at HR
    by_cases h2 : row = [102, 97, 108, 115, 101]
    · rw [decide_eq_true h2] at q2
      rw [if_pos h2] at HR
      clear h1 h2 CSE CN CCL CST
      rcases Nat.lt_or_ge n t.size with hlt | hlt
      · have CA := hid (AMQ.out hlt hlt)
        have hbn := t[n].toNat_lt
        have hlt2 : n < t.size := hlt
        go_enter Tryz.func7, Tryz.ntmps7
        go_wp2_with (first | (go_at_call 22; go_must (refine (CC.out _).mono ?_; rintro e wc ⟨rfl, hw⟩; obtain rfl := hw.symm)) | (go_at_call 24; go_must (refine (CA.out _).mono ?_; rintro e wc ⟨rfl, hw⟩; obtain rfl := hw.symm)))
        go_at_call 26
        refine (CR.out _ (row_in _ (by decide +kernel)) (by decide) (ascii_of _ (by decide)) _).mono ?_
        rintro e w1 ⟨rfl, hb1⟩
        have R1 := hid (box_row hb1)
        have HB1 := hid (vonto (valloc_bel (Below.refl w.heap.size w) _) hb1)
        clear hb1
        go_wp2_with fail
        go_at_call 27
        refine (CB.out _ _).mono ?_
        rintro e w3 ⟨rfl, hb3⟩
        have R0 := hid (R1.out.onto (hb3.block _ R1.out.lt))
        have HB3 := hid (vonto HB1.out hb3)
        clear hb3 R1 HB1
        obtain ⟨u0, e0⟩ := R0.out.cell (o := 0) (by decide)
        obtain ⟨u1, e1⟩ := R0.out.cell (o := 1) (by decide)
        obtain ⟨u2, e2⟩ := R0.out.cell (o := 2) (by decide)
        obtain ⟨u3, e3⟩ := R0.out.cell (o := 3) (by decide)
        obtain ⟨u4, e4⟩ := R0.out.cell (o := 4) (by decide)
        have z0 := R0.out.frozen
        go_wp2_with fail
        refine bodyPost_ret (v := .tuple #[.agg #[.int .i64 1, .int .i64 0, .string ⟨#[]⟩, nilS, nilS], .int .i64 (N : Nat), .int .i64 0, .int .i64 0]) (by simp [results, Tryz.results7, go_sem, e0, e1, e2, e3, e4]) rfl ⟨by rw [HR.out]; rfl, ?_⟩
        repeat (first | exact HB3.out | (refine vset_bel ?_ (by simp)))
      · have hlt2 : ¬ (n : Int) < (t.size : Int) := by omega
        go_enter Tryz.func7, Tryz.ntmps7
        go_wp2_with ((go_at_call 22; go_must (refine (CC.out _).mono ?_; rintro e wc ⟨rfl, hw⟩; obtain rfl := hw.symm)))
        go_at_call 26
        refine (CR.out _ (row_in _ (by decide +kernel)) (by decide) (ascii_of _ (by decide)) _).mono ?_
        rintro e w1 ⟨rfl, hb1⟩
        have R1 := hid (box_row hb1)
        have HB1 := hid (vonto (valloc_bel (Below.refl w.heap.size w) _) hb1)
        clear hb1
        go_wp2_with fail
        go_at_call 27
        refine (CB.out _ _).mono ?_
        rintro e w3 ⟨rfl, hb3⟩
        have R0 := hid (R1.out.onto (hb3.block _ R1.out.lt))
        have HB3 := hid (vonto HB1.out hb3)
        clear hb3 R1 HB1
        obtain ⟨u0, e0⟩ := R0.out.cell (o := 0) (by decide)
        obtain ⟨u1, e1⟩ := R0.out.cell (o := 1) (by decide)
        obtain ⟨u2, e2⟩ := R0.out.cell (o := 2) (by decide)
        obtain ⟨u3, e3⟩ := R0.out.cell (o := 3) (by decide)
        obtain ⟨u4, e4⟩ := R0.out.cell (o := 4) (by decide)
        have z0 := R0.out.frozen
        go_wp2_with fail
        refine bodyPost_ret (v := .tuple #[.agg #[.int .i64 1, .int .i64 0, .string ⟨#[]⟩, nilS, nilS], .int .i64 (N : Nat), .int .i64 0, .int .i64 0]) (by simp [results, Tryz.results7, go_sem, e0, e1, e2, e3, e4]) rfl ⟨by rw [HR.out]; rfl, ?_⟩
        repeat (first | exact HB3.out | (refine vset_bel ?_ (by simp)))
    · rw [decide_eq_false h2] at q2
      rw [if_neg h2] at HR
      clear h1 h2 CB
      cases ok with
      | true =>
        rw [if_pos rfl] at HR
        obtain ⟨tk, tn, ts, hv⟩ := vv_parts (stampR (t.extract n E))
        rw [hv] at CST
        have HV := hid hv
        generalize stampE (t.extract n E) = se at *
        clear hv CN CF
        rcases Nat.lt_or_ge n t.size with hlt | hlt
        · have CA := hid (AMQ.out hlt hlt)
          have hbn := t[n].toNat_lt
          have hlt2 : n < t.size := hlt
          go_enter Tryz.func7, Tryz.ntmps7
          go_wp2_with (first | (go_at_call 22; go_must (refine (CC.out _).mono ?_; rintro e wc ⟨rfl, hw⟩; obtain rfl := hw.symm)) | (go_at_call 24; go_must (refine (CA.out _).mono ?_; rintro e wc ⟨rfl, hw⟩; obtain rfl := hw.symm)))
          go_at_call 26
          refine (CR.out _ (row_in _ (by decide +kernel)) (by decide) (ascii_of _ (by decide)) _).mono ?_
          rintro e w1 ⟨rfl, hb1⟩
          have R1 := hid (box_row hb1)
          have HB1 := hid (vonto (valloc_bel (Below.refl w.heap.size w) _) hb1)
          clear hb1
          go_wp2_with fail
          go_at_call 28
          refine (CSE.out _ HB1.out).mono ?_
          rintro e w2 ⟨rfl, hb2⟩
          have R2 := hid (R1.out.onto (hb2.block _ R1.out.lt))
          have HB2 := hid (vonto HB1.out hb2)
          clear hb2 R1 HB1
          go_wp2_with fail
          go_at_call 17
          refine (CCL.out _).mono ?_
          rintro e w4 ⟨rfl, hb4⟩
          have R4 := hid (R2.out.onto (hb4.block _ R2.out.lt))
          have HB4 := hid (vonto HB2.out hb4)
          clear hb4 R2 HB2
          go_wp2_with fail
          go_at_call 16
          refine (CST.out _).mono ?_
          rintro e w5 ⟨rfl, hb5⟩
          have R5 := hid (R4.out.onto (hb5.block _ R4.out.lt))
          have HB5 := hid (vonto HB4.out hb5)
          clear hb5 R4 HB4
          go_upto_region 12 with fail
          refine wp_gen ?_
          intro W hW
          have R0 : Hid (Row W w.heap.size 27 5) := by rw [hW]; exact R5.out.onto (((Below.refl w5.heap.size w5).alloc (Nat.le_refl _) _).block _ R5.out.lt)
          have HB3 : Hid (Below w.heap.size w W) := by rw [hW]; exact valloc_bel HB5.out _
          have hk := new_cells w5 [.int .i64 tk, .int .i64 tn, .string ts, .slice none 0 0, .slice none 0 0] 27
          have b0 : W.cell? ⟨w5.heap.size, 0, none⟩ = some (.int .i64 tk) := by rw [hW]; exact (addz _ 0) ▸ hk 0 _ rfl
          have b1 : W.cell? ⟨w5.heap.size, 1, none⟩ = some (.int .i64 tn) := by rw [hW]; exact (addz _ 1) ▸ hk 1 _ rfl
          have b2 : W.cell? ⟨w5.heap.size, 2, none⟩ = some (.string ts) := by rw [hW]; exact (addz _ 2) ▸ hk 2 _ rfl
          have b3 : W.cell? ⟨w5.heap.size, 3, none⟩ = some (nilS) := by rw [hW]; exact (addz _ 3) ▸ hk 3 _ rfl
          have b4 : W.cell? ⟨w5.heap.size, 4, none⟩ = some (nilS) := by rw [hW]; exact (addz _ 4) ▸ hk 4 _ rfl
          clear hW hk R5 HB5
          obtain ⟨u0, e0⟩ := R0.out.cell (o := 0) (by decide)
          obtain ⟨u1, e1⟩ := R0.out.cell (o := 1) (by decide)
          obtain ⟨u2, e2⟩ := R0.out.cell (o := 2) (by decide)
          obtain ⟨u3, e3⟩ := R0.out.cell (o := 3) (by decide)
          obtain ⟨u4, e4⟩ := R0.out.cell (o := 4) (by decide)
          have z0 := R0.out.frozen
          go_wp2_with fail
          refine bodyPost_ret (v := .tuple #[.agg #[.int .i64 tk, .int .i64 tn, .string ts, nilS, nilS], .int .i64 (E : Nat), .int .i64 0, .int .i64 0]) (by simp [results, Tryz.results7, go_sem, e0, e1, e2, e3, e4]) rfl ⟨by rw [HR.out]; unfold PR.V; simp only; rw [HV.out], ?_⟩
          repeat (first | exact HB3.out | (refine vset_bel ?_ (by simp)))
        · have hlt2 : ¬ (n : Int) < (t.size : Int) := by omega
          go_enter Tryz.func7, Tryz.ntmps7
          go_wp2_with ((go_at_call 22; go_must (refine (CC.out _).mono ?_; rintro e wc ⟨rfl, hw⟩; obtain rfl := hw.symm)))
          go_at_call 26
          refine (CR.out _ (row_in _ (by decide +kernel)) (by decide) (ascii_of _ (by decide)) _).mono ?_
          rintro e w1 ⟨rfl, hb1⟩
          have R1 := hid (box_row hb1)
          have HB1 := hid (vonto (valloc_bel (Below.refl w.heap.size w) _) hb1)
          clear hb1
          go_wp2_with fail
          go_at_call 28
          refine (CSE.out _ HB1.out).mono ?_
          rintro e w2 ⟨rfl, hb2⟩
          have R2 := hid (R1.out.onto (hb2.block _ R1.out.lt))
          have HB2 := hid (vonto HB1.out hb2)
          clear hb2 R1 HB1
          go_wp2_with fail
          go_at_call 17
          refine (CCL.out _).mono ?_
          rintro e w4 ⟨rfl, hb4⟩
          have R4 := hid (R2.out.onto (hb4.block _ R2.out.lt))
          have HB4 := hid (vonto HB2.out hb4)
          clear hb4 R2 HB2
          go_wp2_with fail
          go_at_call 16
          refine (CST.out _).mono ?_
          rintro e w5 ⟨rfl, hb5⟩
          have R5 := hid (R4.out.onto (hb5.block _ R4.out.lt))
          have HB5 := hid (vonto HB4.out hb5)
          clear hb5 R4 HB4
          go_upto_region 12 with fail
          refine wp_gen ?_
          intro W hW
          have R0 : Hid (Row W w.heap.size 27 5) := by rw [hW]; exact R5.out.onto (((Below.refl w5.heap.size w5).alloc (Nat.le_refl _) _).block _ R5.out.lt)
          have HB3 : Hid (Below w.heap.size w W) := by rw [hW]; exact valloc_bel HB5.out _
          have hk := new_cells w5 [.int .i64 tk, .int .i64 tn, .string ts, .slice none 0 0, .slice none 0 0] 27
          have b0 : W.cell? ⟨w5.heap.size, 0, none⟩ = some (.int .i64 tk) := by rw [hW]; exact (addz _ 0) ▸ hk 0 _ rfl
          have b1 : W.cell? ⟨w5.heap.size, 1, none⟩ = some (.int .i64 tn) := by rw [hW]; exact (addz _ 1) ▸ hk 1 _ rfl
          have b2 : W.cell? ⟨w5.heap.size, 2, none⟩ = some (.string ts) := by rw [hW]; exact (addz _ 2) ▸ hk 2 _ rfl
          have b3 : W.cell? ⟨w5.heap.size, 3, none⟩ = some (nilS) := by rw [hW]; exact (addz _ 3) ▸ hk 3 _ rfl
          have b4 : W.cell? ⟨w5.heap.size, 4, none⟩ = some (nilS) := by rw [hW]; exact (addz _ 4) ▸ hk 4 _ rfl
          clear hW hk R5 HB5
          obtain ⟨u0, e0⟩ := R0.out.cell (o := 0) (by decide)
          obtain ⟨u1, e1⟩ := R0.out.cell (o := 1) (by decide)
          obtain ⟨u2, e2⟩ := R0.out.cell (o := 2) (by decide)
          obtain ⟨u3, e3⟩ := R0.out.cell (o := 3) (by decide)
          obtain ⟨u4, e4⟩ := R0.out.cell (o := 4) (by decide)
          have z0 := R0.out.frozen
          go_wp2_with fail
          refine bodyPost_ret (v := .tuple #[.agg #[.int .i64 tk, .int .i64 tn, .string ts, nilS, nilS], .int .i64 (E : Nat), .int .i64 0, .int .i64 0]) (by simp [results, Tryz.results7, go_sem, e0, e1, e2, e3, e4]) rfl ⟨by rw [HR.out]; unfold PR.V; simp only; rw [HV.out], ?_⟩
          repeat (first | exact HB3.out | (refine vset_bel ?_ (by simp)))
      | false =>
        rw [if_neg (by decide)] at HR
        clear CCL CST
        obtain ⟨tk, tn, ts, hv⟩ := vv_parts nr
        rw [hv] at CN
        have HV := hid hv
        clear hv
        by_cases hne : ne = 0
        · have tz : (ne != 0) = false := by simpa using hne
          rw [if_neg (fun k => k hne)] at HR
          clear hne CF
          rcases Nat.lt_or_ge n t.size with hlt | hlt
          · have CA := hid (AMQ.out hlt hlt)
            have hbn := t[n].toNat_lt
            have hlt2 : n < t.size := hlt
            go_enter Tryz.func7, Tryz.ntmps7
            go_wp2_with (first | (go_at_call 22; go_must (refine (CC.out _).mono ?_; rintro e wc ⟨rfl, hw⟩; obtain rfl := hw.symm)) | (go_at_call 24; go_must (refine (CA.out _).mono ?_; rintro e wc ⟨rfl, hw⟩; obtain rfl := hw.symm)))
            go_at_call 26
            refine (CR.out _ (row_in _ (by decide +kernel)) (by decide) (ascii_of _ (by decide)) _).mono ?_
            rintro e w1 ⟨rfl, hb1⟩
            have R1 := hid (box_row hb1)
            have HB1 := hid (vonto (valloc_bel (Below.refl w.heap.size w) _) hb1)
            clear hb1
            go_wp2_with fail
            go_at_call 28
            refine (CSE.out _ HB1.out).mono ?_
            rintro e w2 ⟨rfl, hb2⟩
            have R2 := hid (R1.out.onto (hb2.block _ R1.out.lt))
            have HB2 := hid (vonto HB1.out hb2)
            clear hb2 R1 HB1
            go_wp2_with fail
            go_at_call 6
            refine (CN.out _ HB2.out).mono ?_
            rintro e w5 ⟨rfl, hb5⟩
            have R5 := hid (R2.out.onto (hb5.block _ R2.out.lt))
            have HB5 := hid (vonto HB2.out hb5)
            clear hb5 R2 HB2
            go_upto_region 14 with fail
            refine wp_gen ?_
            intro W hW
            have R0 : Hid (Row W w.heap.size 27 5) := by rw [hW]; exact R5.out.onto (((Below.refl w5.heap.size w5).alloc (Nat.le_refl _) _).block _ R5.out.lt)
            have HB3 : Hid (Below w.heap.size w W) := by rw [hW]; exact valloc_bel HB5.out _
            have hk := new_cells w5 [.int .i64 tk, .int .i64 tn, .string ts, .slice none 0 0, .slice none 0 0] 27
            have b0 : W.cell? ⟨w5.heap.size, 0, none⟩ = some (.int .i64 tk) := by rw [hW]; exact (addz _ 0) ▸ hk 0 _ rfl
            have b1 : W.cell? ⟨w5.heap.size, 1, none⟩ = some (.int .i64 tn) := by rw [hW]; exact (addz _ 1) ▸ hk 1 _ rfl
            have b2 : W.cell? ⟨w5.heap.size, 2, none⟩ = some (.string ts) := by rw [hW]; exact (addz _ 2) ▸ hk 2 _ rfl
            have b3 : W.cell? ⟨w5.heap.size, 3, none⟩ = some (nilS) := by rw [hW]; exact (addz _ 3) ▸ hk 3 _ rfl
            have b4 : W.cell? ⟨w5.heap.size, 4, none⟩ = some (nilS) := by rw [hW]; exact (addz _ 4) ▸ hk 4 _ rfl
            clear hW hk R5 HB5
            obtain ⟨u0, e0⟩ := R0.out.cell (o := 0) (by decide)
            obtain ⟨u1, e1⟩ := R0.out.cell (o := 1) (by decide)
            obtain ⟨u2, e2⟩ := R0.out.cell (o := 2) (by decide)
            obtain ⟨u3, e3⟩ := R0.out.cell (o := 3) (by decide)
            obtain ⟨u4, e4⟩ := R0.out.cell (o := 4) (by decide)
            have z0 := R0.out.frozen
            go_wp2_with fail
            refine bodyPost_ret (v := .tuple #[.agg #[.int .i64 tk, .int .i64 tn, .string ts, nilS, nilS], .int .i64 (N : Nat), .int .i64 0, .int .i64 0]) (by simp [results, Tryz.results7, go_sem, e0, e1, e2, e3, e4]) rfl ⟨by rw [HR.out]; unfold PR.V; simp only; rw [HV.out], ?_⟩
            repeat (first | exact HB3.out | (refine vset_bel ?_ (by simp)))
          · have hlt2 : ¬ (n : Int) < (t.size : Int) := by omega
            go_enter Tryz.func7, Tryz.ntmps7
            go_wp2_with ((go_at_call 22; go_must (refine (CC.out _).mono ?_; rintro e wc ⟨rfl, hw⟩; obtain rfl := hw.symm)))
            go_at_call 26
            refine (CR.out _ (row_in _ (by decide +kernel)) (by decide) (ascii_of _ (by decide)) _).mono ?_
            rintro e w1 ⟨rfl, hb1⟩
            have R1 := hid (box_row hb1)
            have HB1 := hid (vonto (valloc_bel (Below.refl w.heap.size w) _) hb1)
            clear hb1
            go_wp2_with fail
            go_at_call 28
            refine (CSE.out _ HB1.out).mono ?_
            rintro e w2 ⟨rfl, hb2⟩
            have R2 := hid (R1.out.onto (hb2.block _ R1.out.lt))
            have HB2 := hid (vonto HB1.out hb2)
            clear hb2 R1 HB1
            go_wp2_with fail
            go_at_call 6
            refine (CN.out _ HB2.out).mono ?_
            rintro e w5 ⟨rfl, hb5⟩
            have R5 := hid (R2.out.onto (hb5.block _ R2.out.lt))
            have HB5 := hid (vonto HB2.out hb5)
            clear hb5 R2 HB2
            go_upto_region 14 with fail
            refine wp_gen ?_
            intro W hW
            have R0 : Hid (Row W w.heap.size 27 5) := by rw [hW]; exact R5.out.onto (((Below.refl w5.heap.size w5).alloc (Nat.le_refl _) _).block _ R5.out.lt)
            have HB3 : Hid (Below w.heap.size w W) := by rw [hW]; exact valloc_bel HB5.out _
            have hk := new_cells w5 [.int .i64 tk, .int .i64 tn, .string ts, .slice none 0 0, .slice none 0 0] 27
            have b0 : W.cell? ⟨w5.heap.size, 0, none⟩ = some (.int .i64 tk) := by rw [hW]; exact (addz _ 0) ▸ hk 0 _ rfl
            have b1 : W.cell? ⟨w5.heap.size, 1, none⟩ = some (.int .i64 tn) := by rw [hW]; exact (addz _ 1) ▸ hk 1 _ rfl
            have b2 : W.cell? ⟨w5.heap.size, 2, none⟩ = some (.string ts) := by rw [hW]; exact (addz _ 2) ▸ hk 2 _ rfl
            have b3 : W.cell? ⟨w5.heap.size, 3, none⟩ = some (nilS) := by rw [hW]; exact (addz _ 3) ▸ hk 3 _ rfl
            have b4 : W.cell? ⟨w5.heap.size, 4, none⟩ = some (nilS) := by rw [hW]; exact (addz _ 4) ▸ hk 4 _ rfl
            clear hW hk R5 HB5
            obtain ⟨u0, e0⟩ := R0.out.cell (o := 0) (by decide)
            obtain ⟨u1, e1⟩ := R0.out.cell (o := 1) (by decide)
            obtain ⟨u2, e2⟩ := R0.out.cell (o := 2) (by decide)
            obtain ⟨u3, e3⟩ := R0.out.cell (o := 3) (by decide)
            obtain ⟨u4, e4⟩ := R0.out.cell (o := 4) (by decide)
            have z0 := R0.out.frozen
            go_wp2_with fail
            refine bodyPost_ret (v := .tuple #[.agg #[.int .i64 tk, .int .i64 tn, .string ts, nilS, nilS], .int .i64 (N : Nat), .int .i64 0, .int .i64 0]) (by simp [results, Tryz.results7, go_sem, e0, e1, e2, e3, e4]) rfl ⟨by rw [HR.out]; unfold PR.V; simp only; rw [HV.out], ?_⟩
            repeat (first | exact HB3.out | (refine vset_bel ?_ (by simp)))
        · have tz : (ne != 0) = true := by simpa using hne
          rw [if_pos hne] at HR
          clear hne
          rcases Nat.lt_or_ge n t.size with hlt | hlt
          · have CA := hid (AMQ.out hlt hlt)
            have hbn := t[n].toNat_lt
            have hlt2 : n < t.size := hlt
            go_enter Tryz.func7, Tryz.ntmps7
            go_wp2_with (first | (go_at_call 22; go_must (refine (CC.out _).mono ?_; rintro e wc ⟨rfl, hw⟩; obtain rfl := hw.symm)) | (go_at_call 24; go_must (refine (CA.out _).mono ?_; rintro e wc ⟨rfl, hw⟩; obtain rfl := hw.symm)))
            go_at_call 26
            refine (CR.out _ (row_in _ (by decide +kernel)) (by decide) (ascii_of _ (by decide)) _).mono ?_
            rintro e w1 ⟨rfl, hb1⟩
            have R1 := hid (box_row hb1)
            have HB1 := hid (vonto (valloc_bel (Below.refl w.heap.size w) _) hb1)
            clear hb1
            go_wp2_with fail
            go_at_call 28
            refine (CSE.out _ HB1.out).mono ?_
            rintro e w2 ⟨rfl, hb2⟩
            have R2 := hid (R1.out.onto (hb2.block _ R1.out.lt))
            have HB2 := hid (vonto HB1.out hb2)
            clear hb2 R1 HB1
            go_wp2_with fail
            go_at_call 6
            refine (CN.out _ HB2.out).mono ?_
            rintro e w5 ⟨rfl, hb5⟩
            have R5 := hid (R2.out.onto (hb5.block _ R2.out.lt))
            have HB5 := hid (vonto HB2.out hb5)
            clear hb5 R2 HB2
            go_upto_region 14 with fail
            refine wp_gen ?_
            intro W hW
            have RW : Hid (Row W w.heap.size 27 5) := by rw [hW]; exact R5.out.onto (((Below.refl w5.heap.size w5).alloc (Nat.le_refl _) _).block _ R5.out.lt)
            have HBW : Hid (Below w.heap.size w W) := by rw [hW]; exact valloc_bel HB5.out _
            clear hW R5 HB5
            go_wp2_with fail
            go_at_call 23
            refine (CF.out _ _ _).mono ?_
            rintro e w3 ⟨rfl, hb3⟩
            have R0 := hid (RW.out.onto (hb3.block _ RW.out.lt))
            have HB3 := hid (vonto HBW.out hb3)
            clear hb3 RW HBW
            obtain ⟨u0, e0⟩ := R0.out.cell (o := 0) (by decide)
            obtain ⟨u1, e1⟩ := R0.out.cell (o := 1) (by decide)
            obtain ⟨u2, e2⟩ := R0.out.cell (o := 2) (by decide)
            obtain ⟨u3, e3⟩ := R0.out.cell (o := 3) (by decide)
            obtain ⟨u4, e4⟩ := R0.out.cell (o := 4) (by decide)
            have z0 := R0.out.frozen
            go_wp2_with fail
            refine bodyPost_ret (v := .tuple #[.agg #[.int .i64 0, .int .i64 0, .string ⟨#[]⟩, nilS, nilS], .int .i64 0, .int .i64 ne, .int .i64 (n : Nat)]) (by simp [results, Tryz.results7, go_sem, e0, e1, e2, e3, e4]) rfl ⟨by rw [HR.out]; rfl, ?_⟩
            repeat (first | exact HB3.out | (refine vset_bel ?_ (by simp)))
          · have hlt2 : ¬ (n : Int) < (t.size : Int) := by omega
            go_enter Tryz.func7, Tryz.ntmps7
            go_wp2_with ((go_at_call 22; go_must (refine (CC.out _).mono ?_; rintro e wc ⟨rfl, hw⟩; obtain rfl := hw.symm)))
            go_at_call 26
            refine (CR.out _ (row_in _ (by decide +kernel)) (by decide) (ascii_of _ (by decide)) _).mono ?_
            rintro e w1 ⟨rfl, hb1⟩
            have R1 := hid (box_row hb1)
            have HB1 := hid (vonto (valloc_bel (Below.refl w.heap.size w) _) hb1)
            clear hb1
            go_wp2_with fail
            go_at_call 28
            refine (CSE.out _ HB1.out).mono ?_
            rintro e w2 ⟨rfl, hb2⟩
            have R2 := hid (R1.out.onto (hb2.block _ R1.out.lt))
            have HB2 := hid (vonto HB1.out hb2)
            clear hb2 R1 HB1
            go_wp2_with fail
            go_at_call 6
            refine (CN.out _ HB2.out).mono ?_
            rintro e w5 ⟨rfl, hb5⟩
            have R5 := hid (R2.out.onto (hb5.block _ R2.out.lt))
            have HB5 := hid (vonto HB2.out hb5)
            clear hb5 R2 HB2
            go_upto_region 14 with fail
            refine wp_gen ?_
            intro W hW
            have RW : Hid (Row W w.heap.size 27 5) := by rw [hW]; exact R5.out.onto (((Below.refl w5.heap.size w5).alloc (Nat.le_refl _) _).block _ R5.out.lt)
            have HBW : Hid (Below w.heap.size w W) := by rw [hW]; exact valloc_bel HB5.out _
            clear hW R5 HB5
            go_wp2_with fail
            go_at_call 23
            refine (CF.out _ _ _).mono ?_
            rintro e w3 ⟨rfl, hb3⟩
            have R0 := hid (RW.out.onto (hb3.block _ RW.out.lt))
            have HB3 := hid (vonto HBW.out hb3)
            clear hb3 RW HBW
            obtain ⟨u0, e0⟩ := R0.out.cell (o := 0) (by decide)
            obtain ⟨u1, e1⟩ := R0.out.cell (o := 1) (by decide)
            obtain ⟨u2, e2⟩ := R0.out.cell (o := 2) (by decide)
            obtain ⟨u3, e3⟩ := R0.out.cell (o := 3) (by decide)
            obtain ⟨u4, e4⟩ := R0.out.cell (o := 4) (by decide)
            have z0 := R0.out.frozen
            go_wp2_with fail
            refine bodyPost_ret (v := .tuple #[.agg #[.int .i64 0, .int .i64 0, .string ⟨#[]⟩, nilS, nilS], .int .i64 0, .int .i64 ne, .int .i64 (n : Nat)]) (by simp [results, Tryz.results7, go_sem, e0, e1, e2, e3, e4]) rfl ⟨by rw [HR.out]; rfl, ?_⟩
            repeat (first | exact HB3.out | (refine vset_bel ?_ (by simp)))
set_option maxRecDepth 100000 in
set_option maxHeartbeats 4000000 in
theorem tplain_any (t : ByteArray) (a : Int) (w : World) (ht : t.size ≤ 1000000) (hg : GlobN w) :
    Calls Tryz.prog 7 #[.string t, .int .i64 a] w fun e w' => e = .returned (plT t.data.toList a).V ∧ Below w.heap.size w w' := by
  have HZ := hid (size_list t)
  by_cases ha : a ≠ plc t.data.toList a
  · have HR : plT t.data.toList a = noPR 4 (plc t.data.toList a) := by unfold plT; rw [if_pos ha]
    rw [HR]
    have CC := hid (fun X => tclamp_any t a X)
    have CF := hid (fun e b X => trefuse_any e b X)
    have g : (a != plc t.data.toList a) = true := by simpa using ha
    generalize plc t.data.toList a = p at *
    clear ha HR
    go_enter Tryz.func7, Tryz.ntmps7
    go_wp2_with (go_at_call 22; go_must (refine (CC.out _).mono ?_; rintro e wc ⟨rfl, hw⟩; obtain rfl := hw.symm))
    go_at_call 23
    refine (CF.out _ _ _).mono ?_
    rintro e w3 ⟨rfl, hb3⟩
    have R0 := hid (box_row hb3)
    have HB3 := hid (vonto (valloc_bel (Below.refl w.heap.size w) _) hb3)
    clear hb3
    obtain ⟨u0, e0⟩ := R0.out.cell (o := 0) (by decide)
    obtain ⟨u1, e1⟩ := R0.out.cell (o := 1) (by decide)
    obtain ⟨u2, e2⟩ := R0.out.cell (o := 2) (by decide)
    obtain ⟨u3, e3⟩ := R0.out.cell (o := 3) (by decide)
    obtain ⟨u4, e4⟩ := R0.out.cell (o := 4) (by decide)
    have z0 := R0.out.frozen
    go_wp2_with fail
    refine bodyPost_ret (v := .tuple #[.agg #[.int .i64 0, .int .i64 0, .string ⟨#[]⟩, nilS, nilS], .int .i64 0, .int .i64 4, .int .i64 p]) (by simp [results, Tryz.results7, go_sem, e0, e1, e2, e3, e4]) rfl ⟨rfl, ?_⟩
    repeat (first | exact HB3.out | (refine vset_bel ?_ (by simp)))
  · have ha2 : a = plc t.data.toList a := Classical.not_not.1 ha
    have hin := tplc_in t.data.toList a
    rw [← ha2, HZ.out] at hin
    obtain ⟨n, rfl⟩ : ∃ n : Nat, a = (n : Int) := ⟨a.toNat, by omega⟩
    have HR : plT t.data.toList (n : Int) = plN t.data.toList n := by unfold plT; rw [if_neg ha]; rfl
    rw [HR]
    have hn : n ≤ t.size := by omega
    by_cases hq : bt t.data.toList n = 34 ∨ bt t.data.toList n = 39
    · have hlt : n < t.size := by
        have := bt_lt (l := t.data.toList) (k := n) (by omega)
        rw [HZ.out] at this; exact this
      have HN : plN t.data.toList n = psT t.data.toList n := by unfold plN; rw [if_pos hq]
      rw [HN]
      have CC := hid (fun X => tclamp_any t (n : Int) X)
      rw [← ha2] at CC
      have CA : Hid (∀ X, Calls Tryz.prog 24 #[.string ⟨#[34, 39]⟩, .int .u8 (t[n].toNat : Int)] X fun e w' => e = .returned (.bool true) ∧ w' = X) := fun X => by
        have := tamong_qq t[n] X
        rw [decide_eq_true (by rw [← bt_at t n hlt]; exact hq)] at this; exact this
      have CP := hid (fun X => tpstr_any t n X ht)
      obtain ⟨tk, tn, ts, hv⟩ := PR.parts (psT t.data.toList n)
      generalize psT t.data.toList n = r at *
      rw [hv] at CP ⊢
      generalize r.n = rn at *
      generalize r.e = re at *
      generalize r.b = rb at *
      have hbn := t[n].toNat_lt
      clear ha ha2 hin HR HN hq hv hg hn
      have hlt2 : n < t.size := hlt
      go_enter Tryz.func7, Tryz.ntmps7
      go_wp2_with (first | (go_at_call 22; go_must (refine (CC.out _).mono ?_; rintro e wc ⟨rfl, hw⟩; obtain rfl := hw.symm)) | (go_at_call 24; go_must (refine (CA.out _).mono ?_; rintro e wc ⟨rfl, hw⟩; obtain rfl := hw.symm)))
      go_at_call 25
      refine (CP.out _).mono ?_
      rintro e w3 ⟨rfl, hb3⟩
      have R0 := hid (box_row hb3)
      have HB3 := hid (vonto (valloc_bel (Below.refl w.heap.size w) _) hb3)
      clear hb3
      obtain ⟨u0, e0⟩ := R0.out.cell (o := 0) (by decide)
      obtain ⟨u1, e1⟩ := R0.out.cell (o := 1) (by decide)
      obtain ⟨u2, e2⟩ := R0.out.cell (o := 2) (by decide)
      obtain ⟨u3, e3⟩ := R0.out.cell (o := 3) (by decide)
      obtain ⟨u4, e4⟩ := R0.out.cell (o := 4) (by decide)
      have z0 := R0.out.frozen
      go_wp2_with fail
      refine bodyPost_ret (v := .tuple #[.agg #[.int .i64 tk, .int .i64 tn, .string ts, nilS, nilS], .int .i64 rn, .int .i64 re, .int .i64 rb]) (by simp [results, Tryz.results7, go_sem, e0, e1, e2, e3, e4]) rfl ⟨rfl, ?_⟩
      repeat (first | exact HB3.out | (refine vset_bel ?_ (by simp)))
    · have HN : plN t.data.toList n = plQ t.data.toList n := by unfold plN; rw [if_neg hq]
      rw [HN]
      exact tplainQ t n w ht hn hq hg
end Go.Proofs.YtlapefhnbbcmmaaGreatDoor
