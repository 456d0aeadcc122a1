/- Plain mathematics: keys with ints, in an order and in its reverse, are one map. -/
import Derived.Test.YtkhjahpkbjafaaaGreatDoorPMathPairs
import Derived.Test.YtkhjahpkbjafaaaGreatDoorPRefDecE
import Derived.Test.YtkhjahpkbjafaaaGreatDoorPVBase
import Derived.Test.YtkhjahpkbjafaaaGreatDoorPRefVal5
import Derived.Test.YtkhjahpkbjafaaaGreatDoorPL8Base
import Derived.Test.YtkhjahpkbjafaaaGreatDoorPRefVal4
/- Strings that are handed in. -/
/- Pairs in any order: JreadOrder walked. -/
namespace Go.Proofs.YtkhjahpkbjafaaaGreatDoor
open Go.RowKit

/-- the i-th pair -/
def ordQ (ks : List ByteArray) (n : Int) (i : Nat) : Qp := ⟨(ks.getD i ⟨#[]⟩).data.toList, [.nu (txt (wrap64 (n + ((i % 8 : Nat) : Int))))], leafT 2 (wrap64 (n + ((i % 8 : Nat) : Int))) ⟨#[]⟩, 1⟩
def ors (ks : List ByteArray) (n : Int) (j : Nat) : List Qp := (List.range j).map (ordQ ks n)
theorem ors_succ (ks : List ByteArray) (n : Int) (j : Nat) : ors ks n (j + 1) = ors ks n j ++ [ordQ ks n j] := by unfold ors; rw [List.range_succ, List.map_append]; rfl
theorem ors_len (ks : List ByteArray) (n : Int) (j : Nat) : (ors ks n j).length = j := by unfold ors; simp
def fwB (ks : List ByteArray) (n : Int) (j : Nat) : List UInt8 := txs (prT (ors ks n j))
def bwB (ks : List ByteArray) (n : Int) (j : Nat) : List UInt8 := txs (prT (ors ks n j).reverse)
theorem ors_emp (ks : List ByteArray) (n : Int) (j : Nat) : (ors ks n j).isEmpty = decide (j = 0) := by
  cases j with
  | zero => rfl
  | succ j => rw [ors_succ]; simp
theorem fwB_next (ks : List ByteArray) (n : Int) (j : Nat) : fwB ks n (j + 1) = fwB ks n j ++ ((if j = 0 then [] else [44]) ++ pcQ (ordQ ks n j)) := by
  unfold fwB
  rw [ors_succ, tx_back, ors_emp]
  simp
theorem bwB_next (ks : List ByteArray) (n : Int) (j : Nat) : bwB ks n (j + 1) = pcQ (ordQ ks n j) ++ ((if j = 0 then [] else [44]) ++ bwB ks n j) := by
  unfold bwB
  rw [ors_succ, List.reverse_append]
  cases j with
  | zero =>
    show txs (prT [ordQ ks n 0]) = pcQ (ordQ ks n 0) ++ ([] ++ txs (prT []))
    rw [tx_one, show prT [] = [] from by rw [prT]]; simp [txs]
  | succ j =>
    rw [ors_succ, List.reverse_append]
    simp only [List.reverse_cons, List.reverse_nil, List.nil_append, List.singleton_append]
    rw [tx_two]
    simp
theorem wrap_range (n : Int) : -9223372036854775808 ≤ wrap64 n ∧ wrap64 n < 9223372036854775808 := by unfold wrap64; omega
theorem ordQ_ok (ks : List ByteArray) (n : Int) (i : Nat) (hv : teI (ks.getD i ⟨#[]⟩) = 0) : QOk 1 (ordQ ks n i) := by
  obtain ⟨h1, h2⟩ := te_vl hv
  obtain ⟨m, hm⟩ : ∃ m, wrap64 (n + ((i % 8 : Nat) : Int)) = m := ⟨_, rfl⟩
  have hr := wrap_range (n + ((i % 8 : Nat) : Int))
  rw [hm] at hr
  unfold ordQ
  rw [hm]
  refine ⟨fun a => ?_, fun R hR => ⟨⟨(text_bare m hr).1, fun x hx => (hR x (by simpa [txs] using hx)).1⟩, trivial⟩, h1, h2⟩
  have := rds_one (x := ⟨3, txt m, a⟩) (d := 2) (beg_kd (by simp) (by simp)) (by simp) (by simp) (by omega)
  obtain ⟨i1, i2, -⟩ := ints_int m hr
  have e : sgT ⟨3, txt m, a⟩ = leafT 2 m ⟨#[]⟩ := by
    unfold sgT numT
    rw [if_neg (by simp), if_pos rfl, if_pos i1, i2]
  rw [e] at this
  exact this
/-- keys that are fit, and each another -/
def KsOk (ks : List ByteArray) (j : Nat) : Prop := (∀ i < j, teI (ks.getD i ⟨#[]⟩) = 0 ∧ (ks.getD i ⟨#[]⟩).size ≤ 50) ∧ ∀ i k, k < i → i < j → ¬ ks.getD k ⟨#[]⟩ = ks.getD i ⟨#[]⟩
theorem ors_ok (ks : List ByteArray) (n : Int) (j : Nat) (h : KsOk ks j) : ∀ x ∈ ors ks n j, QOk 1 x := by
  intro x hx
  unfold ors at hx
  obtain ⟨i, hi, rfl⟩ := List.mem_map.1 hx
  exact ordQ_ok ks n i (h.1 i (List.mem_range.1 hi)).1
theorem ors_keys (ks : List ByteArray) (n : Int) (j : Nat) : (prP (ors ks n j)).map (·.1) = (List.range j).map (fun i => ks.getD i ⟨#[]⟩) := by
  unfold prP ors ordQ
  simp only [List.map_map]
  refine List.map_congr_left (fun i _ => ?_)
  exact (mkS_of _ _ rfl).symm
theorem ors_nodup (ks : List ByteArray) (n : Int) (j : Nat) (h : KsOk ks j) : ((prP (ors ks n j)).map (·.1)).Nodup := by
  rw [ors_keys, List.Nodup, List.pairwise_map]
  refine (List.pairwise_lt_range (n := j)).imp_of_mem (fun {a b} ha hb hab he => ?_)
  exact h.2 b a hab (List.mem_range.1 hb) he
theorem prN_ones (ks : List ByteArray) (n : Int) : ∀ (A : List Nat), prN (A.map (ordQ ks n)) = A.length
  | [] => rfl
  | a :: A => by
    rw [List.map_cons, prN, prN_ones ks n A, List.length_cons]
    show 1 + A.length = _
    omega
theorem pc_len (ks : List ByteArray) (n : Int) (i : Nat) (h : (ks.getD i ⟨#[]⟩).size ≤ 50) : (pcQ (ordQ ks n i)).length ≤ 330 := by
  have h1 := qt_len (s := (ks.getD i ⟨#[]⟩).data.toList) (n := 50) (by rw [size_list]; exact h)
  have h2 := txt_short (wrap64 (n + ((i % 8 : Nat) : Int))) (wrap_range _)
  show (qtA false (ks.getD i ⟨#[]⟩).data.toList ++ 58 :: (txt (wrap64 (n + ((i % 8 : Nat) : Int))) ++ [])).length ≤ 330
  rw [List.length_append, List.length_cons, List.append_nil]
  omega
theorem fr_len (ks : List ByteArray) (n : Int) : ∀ j, KsOk ks j → (fwB ks n j).length ≤ 331 * j ∧ (bwB ks n j).length ≤ 331 * j
  | 0, _ => by unfold fwB bwB; rw [show ors ks n 0 = [] from rfl]; simp [prT, txs]
  | j + 1, h => by
    have ih := fr_len ks n j ⟨fun i hi => h.1 i (by omega), fun i k h1 h2 => h.2 i k h1 (by omega)⟩
    have h1 := pc_len ks n j (h.1 j (by omega)).2
    have h2 : (if j = 0 then [] else [44] : List UInt8).length ≤ 1 := by split <;> simp
    rw [fwB_next, bwB_next]
    simp only [List.length_append]
    omega
theorem or_reads (ps : List Qp) (h : ∀ x ∈ ps, QOk 1 x) (hn : ((prP ps).map (·.1)).Nodup) (hz : prN ps + 1 ≤ 4096) (hl : (123 :: (txs (prT ps) ++ [125])).length ≤ 65536) :
    ∃ m z, jrA (123 :: (txs (prT ps) ++ [125])) = .ok (mapT (insA [] (prP ps))) m z := by
  cases ps with
  | nil =>
    have e : jrA [123, 125] = .ok (mapT []) 1 [⟨0, [], 2⟩] := by kernel_rfl
    exact ⟨_, _, e⟩
  | cons q r =>
    obtain ⟨z, hz⟩ := mp_reads q r h hn hz hl
    exact ⟨_, z, hz⟩
theorem order_reads (ks : List ByteArray) (n : Int) (j : Nat) (hj : j ≤ 12) (h : KsOk ks j) :
    ∃ M m z m' z', jrA (123 :: (fwB ks n j ++ [125])) = .ok (mapT M) m z ∧ jrA (123 :: (bwB ks n j ++ [125])) = .ok (mapT M) m' z' ∧ M.length = j := by
  have hl := fr_len ks n j h
  have hp : (prP (ors ks n j)).Perm (prP (ors ks n j).reverse) := (List.reverse_perm _).symm.map _
  have hnd := ors_nodup ks n j h
  have hN : prN (ors ks n j) = j := by unfold ors; rw [prN_ones]; simp
  have hN2 : prN (ors ks n j).reverse = j := by unfold ors; rw [← List.map_reverse, prN_ones]; simp
  obtain ⟨m, z, h1⟩ := or_reads (ors ks n j) (ors_ok ks n j h) hnd (by omega) (by unfold fwB at hl; simp at hl ⊢; omega)
  obtain ⟨m', z', h2⟩ := or_reads (ors ks n j).reverse (fun x hx => ors_ok ks n j h x (List.mem_reverse.1 hx)) ((hp.map (·.1)).nodup_iff.1 hnd) (by omega) (by unfold bwB at hl; simp at hl ⊢; omega)
  rw [← ins_perm hp hnd] at h2
  refine ⟨_, m, z, m', z', h1, h2, ?_⟩
  have := (ins_fold (prP (ors ks n j)) [] strict_nil (by simpa using hnd)).2.length_eq
  rw [this]
  simp [prP, ors_len]
end Go.Proofs.YtkhjahpkbjafaaaGreatDoor
namespace Go.Proofs.YtkhjahpkbjafaaaGreatDoor
open Go.RowKit

/-- strings that are handed in -/
def InS (w : World) (ks : List ByteArray) (v : Value) : Prop := ∃ (a : Addr), SlOf v a ks.length ∧ ∀ i c, ks[i]? = some c → w.cell? (a.add i) = some (.string c) ∧ c.size ≤ maxLen
theorem InS.onto {w w' : World} {ks : List ByteArray} {v : Value} (h : InS w ks v) (hb : Below w.heap.size w w') : InS w' ks v := by
  obtain ⟨a, h1, h2⟩ := h
  exact ⟨a, h1, fun i c hc => ⟨keepCell hb (h2 i c hc).1, (h2 i c hc).2⟩⟩
end Go.Proofs.YtkhjahpkbjafaaaGreatDoor
namespace Go.Proofs.YtkhjahpkbjafaaaGreatDoor
open Go.RowKit

theorem and_seven : ∀ j < 12, bits .and .i64 ((j : Nat) : Int) 7 = ((j % 8 : Nat) : Int) := by decide +kernel
theorem KsOk.next {ks : List ByteArray} {j : Nat} (h : KsOk ks j) (h1 : teI (ks.getD j ⟨#[]⟩) = 0) (h2 : (ks.getD j ⟨#[]⟩).size ≤ 50) (h3 : ∀ k < j, ¬ ks.getD k ⟨#[]⟩ = ks.getD j ⟨#[]⟩) : KsOk ks (j + 1) := by
  refine ⟨fun i hi => ?_, fun i k hk hi => ?_⟩
  · by_cases e : i = j
    · subst e; exact ⟨h1, h2⟩
    · exact h.1 i (by omega)
  · by_cases e : i = j
    · subst e; exact h3 k hk
    · exact h.2 i k hk (by omega)
set_option maxRecDepth 100000 in
set_option maxHeartbeats 4000000 in
theorem Tryz.jreadOrder_walk (ks : List ByteArray) (kv : Value) (n : Int) (hn : (Lit.int .i64 n).wf = true) (w : World) (hgs : Globs w) (hks : InS w ks kv) :
    Calls Tryz.prog 4 #[kv, .int .i64 n] w fun e w' => e = .returned (.bool true) ∧ Below w.heap.size w w' := by
  obtain ⟨hg, hu⟩ := hgs
  have CA := hid (awake8 w hg hu)
  have CP := hid (fun (t : ByteArray) X (ht : t.size ≤ 1000000) (hX : Below w.heap.size w X) => jparse_any t X ht (hg.on hX) (hu.on hX))
  have hnr := wf_range hn
  clear hg hu hn
  obtain ⟨a, ⟨o, cap, rfl, hc1, hc2, ho⟩, hcell⟩ := hks
  unfold maxLen at hc2
  go_enter Tryz.func4, Tryz.ntmps4
  go_wp2_with fail
  go_at_call 14
  refine CA.out.mono ?_
  rintro e w0 ⟨rfl, hb0⟩
  have HB0 := hid hb0
  clear hb0 CA
  by_cases h12 : 12 < ks.length
  · go_wp2_with fail
    go_ret
    exact ⟨rfl, HB0.out⟩
  go_wp2_with fail
  go_loopw [5, 6, 7] (fun sv tv iv wr => ∃ (j : Nat) (u v : ByteArray), j ≤ ks.length ∧ iv = .int .i64 j ∧ sv = .string u ∧ tv = .string v ∧ u.size ≤ 4000 ∧ v.size ≤ 4000 ∧ Hid (u = mkS (fwB ks n j)) ∧ Hid (v = mkS (bwB ks n j)) ∧ Hid (KsOk ks j) ∧ Hid (Below w.heap.size w wr)) (fun _ _ iv _ => ks.length - (intOf iv).toNat)
  case atStart => exact ⟨0, _, _, Nat.zero_le _, rfl, rfl, rfl, by decide, by decide, rfl, rfl, ⟨fun i hi => by omega, fun i k _ hi => by omega⟩, HB0.out⟩
  case round =>
    obtain ⟨j, u, v, hj, rfl, rfl, rfl, hu, hv, HU, HV, HOK, HB⟩ := hrel
    by_cases hlt : j < ks.length
    · obtain ⟨c, hc⟩ : ∃ c, ks[j]? = some c := ⟨ks[j], List.getElem?_eq_getElem hlt⟩
      obtain rfl := ho (by omega)
      have hcs := (hcell j c hc).2
      have d0 := keepCell HB.out (hcell j c hc).1
      have CS := hid (fun X => str_any c X hcs)
      unfold maxLen at hcs
      have HC := hid hc
      have HCE := hid hcell
      clear hc hcell
      go_wp2_with fail
      go_at_call 17
      refine (CS.out _).mono ?_
      rintro e w1 ⟨rfl, hb1⟩
      have HB1 := hid (vonto HB.out hb1)
      replace d0 := keepCell hb1 d0
      clear hb1 CS HB
      cases hso : strOkB c with
      | false =>
        go_wp2_with fail
        go_ret
        exact ⟨rfl, HB1.out⟩
      | true =>
      have HTE := hid (show teI c = 0 from of_decide_eq_true ((te_ok c).symm.trans hso))
      clear hso
      by_cases h50 : 50 < c.size
      · go_wp2_with fail
        go_ret
        exact ⟨rfl, HB1.out⟩
      go_wp2_with fail
      go_loopw [8] (fun kv wr => ∃ k : Nat, k ≤ j ∧ kv = .int .i64 k ∧ Hid (∀ i < k, ¬ ks.getD i ⟨#[]⟩ = c) ∧ Hid (Below w.heap.size w wr)) (fun kv _ => j - (intOf kv).toNat)
      case atStart => exact ⟨0, Nat.zero_le _, rfl, fun i hi => by omega, HB1.out⟩
      case round =>
        obtain ⟨k, hk, rfl, HNE, HB⟩ := hrel
        by_cases hlk : k < j
        · obtain ⟨c2, hc2'⟩ : ∃ c2, ks[k]? = some c2 := ⟨ks[k]'(by omega), List.getElem?_eq_getElem (by omega)⟩
          have d1 := keepCell HB.out (HCE.out k c2 hc2').1
          have d2 := keepCell HB.out (HCE.out j c HC.out).1
          have HC2 := hid hc2'
          clear hc2' d0
          cases heq : (c2.toList == c.toList) with
          | true =>
            go_wp2_with fail
            go_quiet (fail)
            go_wp2_with fail
            go_ret
            exact ⟨rfl, vonto HB.out (drewN_below _ _)⟩
          | false =>
            have HNE2 := hid (show ¬ ks.getD k ⟨#[]⟩ = c by
              rw [getD_some HC2.out]
              rintro rfl
              simp at heq)
            go_wp2_with fail
            go_quiet (fail)
            go_wp2_with fail
            go_roundw
            case rel => exact ⟨k + 1, by omega, val_int (by omega), fun i hi => (by
              by_cases e : i = k
              · subst e; exact HNE2.out
              · exact HNE.out i (by omega)), vonto HB.out (drewN_below _ _)⟩
            case measure => simp [intOf]; omega
        · obtain rfl : k = j := by omega
          replace d0 := keepCell HB.out (HCE.out k c HC.out).1
          have HKN := hid (HOK.out.next (by rw [getD_some HC.out]; exact HTE.out) (by rw [getD_some HC.out]; omega) (fun i hi => by rw [getD_some HC.out]; exact HNE.out i hi))
          have CQ := hid (fun X => print_leaf 4 0 c [] [] [] none none 0 0 none X (by decide) (str_node HTE.out) (by decide) (by decide))
          have hE : txs (tkV none (.mk 4 0 c [] [] [])) = qtA false c.data.toList := by rw [tkV]; simp [tkS, txs, Tk.tx]
          rw [hE] at CQ
          simp only [List.length_nil, inI] at CQ
          have h7 := and_seven k (by omega)
          have CT := hid (fun X => text_any (wrap64 (n + ((k % 8 : Nat) : Int))) X (wrap_range _).1 (wrap_range _).2)
          obtain ⟨qt, hqt⟩ : ∃ qt, mkS (qtA false c.data.toList) = qt := ⟨_, rfl⟩
          obtain ⟨tx, htx⟩ : ∃ tx, mkS (txt (wrap64 (n + ((k % 8 : Nat) : Int)))) = tx := ⟨_, rfl⟩
          rw [hqt] at CQ
          rw [htx] at CT
          have z1 : qt.size ≤ 302 := by rw [← hqt, mkS_size]; have := qt_len (s := c.data.toList) (n := 50) (by rw [size_list]; omega); omega
          have z2 : tx.size ≤ 20 := by rw [← htx, mkS_size]; exact txt_short _ (wrap_range _)
          have HPC := hid (show pcQ (ordQ ks n k) = qtA false c.data.toList ++ ([58] ++ txt (wrap64 (n + ((k % 8 : Nat) : Int)))) by
            show qtA false (ks.getD k ⟨#[]⟩).data.toList ++ 58 :: (txt _ ++ []) = _
            rw [getD_some HC.out, List.append_nil]; rfl)
          have HPP := hid (show qt ++ (⟨#[58]⟩ : ByteArray) ++ tx = mkS (pcQ (ordQ ks n k)) by
            rw [HPC.out, ← hqt, ← htx, show (⟨#[58]⟩ : ByteArray) = mkS [58] from rfl, mkS_app, mkS_app, List.append_assoc])
          have HF := hid (fwB_next ks n k)
          have HG := hid (bwB_next ks n k)
          have HLEN := hid (fr_len ks n (k + 1) HKN.out)
          have e8 : ((k % 8 : Nat) : Int) = (k : Int) % 8 := by omega
          rw [e8] at CT
          clear hE hqt htx HPC HNE HB1 e8
          go_wp2_with fail
          go_at_call 18
          refine (CQ.out _).mono ?_
          rintro e w2 ⟨rfl, hb2⟩
          have HB2 := hid (vonto HB.out hb2)
          clear hb2 CQ HB
          go_wp2_with fail
          go_at_call 19
          refine (CT.out _).mono ?_
          rintro e w3 ⟨rfl, hb3⟩
          have HB3 := hid (vonto HB2.out hb3)
          clear hb3 CT HB2
          by_cases h0 : k = 0
          · subst h0
            go_wp2_with fail
            go_roundw
            case rel =>
              have q1 : u ++ (qt ++ (⟨#[58]⟩ : ByteArray) ++ tx) = mkS (fwB ks n (0 + 1)) := by rw [HF.out, if_pos trivial, List.nil_append, HPP.out, HU.out, mkS_app]
              have q2 : qt ++ (⟨#[58]⟩ : ByteArray) ++ tx ++ v = mkS (bwB ks n (0 + 1)) := by rw [HG.out, if_pos trivial, List.nil_append, HPP.out, HV.out, mkS_app]
              have := HLEN.out
              exact ⟨0 + 1, _, _, by omega, val_int (by omega), rfl, rfl, by rw [q1, mkS_size]; omega, by rw [q2, mkS_size]; omega, q1, q2, HKN.out, HB3.out⟩
            case measure => simp [intOf]; omega
          · have hk0 : 0 < k := by omega
            go_wp2_with fail
            go_roundw
            case rel =>
              have q1 : u ++ (⟨#[44]⟩ : ByteArray) ++ (qt ++ (⟨#[58]⟩ : ByteArray) ++ tx) = mkS (fwB ks n (k + 1)) := by rw [HF.out, if_neg h0, HPP.out, HU.out, show (⟨#[44]⟩ : ByteArray) = mkS [44] from rfl, mkS_app, mkS_app, List.append_assoc]
              have q2 : qt ++ (⟨#[58]⟩ : ByteArray) ++ tx ++ ((⟨#[44]⟩ : ByteArray) ++ v) = mkS (bwB ks n (k + 1)) := by rw [HG.out, if_neg h0, HPP.out, HV.out, show (⟨#[44]⟩ : ByteArray) = mkS [44] from rfl, mkS_app, mkS_app]
              have := HLEN.out
              exact ⟨k + 1, _, _, by omega, val_int (by omega), rfl, rfl, by rw [q1, mkS_size]; omega, by rw [q2, mkS_size]; omega, q1, q2, HKN.out, HB3.out⟩
            case measure => simp [intOf]; omega
    · obtain rfl : j = ks.length := by omega
      obtain ⟨M, m1, z1, m2, z2, hr1, hr2, hML⟩ := order_reads ks n ks.length (by omega) HOK.out
      have e1 : ((⟨#[123]⟩ : ByteArray) ++ u ++ (⟨#[125]⟩ : ByteArray)).data.toList = 123 :: (fwB ks n ks.length ++ [125]) := by
        rw [HU.out, show (⟨#[123]⟩ : ByteArray) = mkS [123] from rfl, show (⟨#[125]⟩ : ByteArray) = mkS [125] from rfl, mkS_app, mkS_app, mkS_list]; simp
      have e2 : ((⟨#[123]⟩ : ByteArray) ++ v ++ (⟨#[125]⟩ : ByteArray)).data.toList = 123 :: (bwB ks n ks.length ++ [125]) := by
        rw [HV.out, show (⟨#[123]⟩ : ByteArray) = mkS [123] from rfl, show (⟨#[125]⟩ : ByteArray) = mkS [125] from rfl, mkS_app, mkS_app, mkS_list]; simp
      have C1 := hid (fun X (hX : Below w.heap.size w X) => CP.out ((⟨#[123]⟩ : ByteArray) ++ u ++ (⟨#[125]⟩ : ByteArray)) X (by rw [ByteArray.size_append, ByteArray.size_append]; show 1 + u.size + 1 ≤ _; omega) hX)
      have C2 := hid (fun X (hX : Below w.heap.size w X) => CP.out ((⟨#[123]⟩ : ByteArray) ++ v ++ (⟨#[125]⟩ : ByteArray)) X (by rw [ByteArray.size_append, ByteArray.size_append]; show 1 + v.size + 1 ≤ _; omega) hX)
      rw [e1, hr1] at C1
      rw [e2, hr2] at C2
      unfold Jq at C1 C2
      dsimp only at C1 C2
      clear e1 e2 hr1 hr2 HU HV HOK CP hlt hj hcell ho
      obtain ⟨T, hT⟩ : ∃ T, mapT M = T := ⟨_, rfl⟩
      have hTv : T.vs.length = ks.length := by rw [← hT, ← hML]; simp [mapT, VT.vs]
      rw [hT] at C1 C2
      clear hT hML
      go_wp2_with fail
      go_at_call 15
      refine (C1.out _ HB.out).mono ?_
      rintro e w1 ⟨o1, n1, c1, o1', n1', c1', rfl, hs1, hb1⟩
      have hnl := (hs_len hs1).2
      rw [hTv] at hnl
      subst hnl
      have HS1 := hid hs1.hv
      have HB1 := hid (vonto HB.out hb1)
      clear hb1 C1 hs1 HB
      simp only [vv]
      go_wp2_with fail
      go_at_call 15
      obtain ⟨f0, -, -, -⟩ := fault_cells w1 (.cells #[.int .i64 T.kd, .int .i64 T.nm, .string T.st, .slice o1 n1 c1, .slice o1' ks.length c1'] 27) 0 0 0 0
      obtain ⟨v0, v1, v2, v3, v4⟩ := value_cells w1 T.kd T.nm T.st (.slice o1 n1 c1) (.slice o1' ks.length c1') (.cells #[.int .i64 0, .int .i64 0, .int .i64 0, .int .i64 0] 30)
      have hk1 := valloc_bel (valloc_bel (Below.refl w1.heap.size w1) (.cells #[.int .i64 T.kd, .int .i64 T.nm, .string T.st, .slice o1 n1 c1, .slice o1' ks.length c1'] 27)) (.cells #[.int .i64 0, .int .i64 0, .int .i64 0, .int .i64 0] 30)
      refine (C2.out _ (vonto HB1.out hk1)).mono ?_
      rintro e w2 ⟨o2, n2, c2, o2', n2', c2', rfl, hs2, hb2⟩
      have hk2 := valloc_bel (valloc_bel (Below.refl w2.heap.size w2) (.cells #[.int .i64 T.kd, .int .i64 T.nm, .string T.st, .slice o2 n2 c2, .slice o2' n2' c2'] 27)) (.cells #[.int .i64 0, .int .i64 0, .int .i64 0, .int .i64 0] 30)
      replace f0 := keepCell hk2 (keepCell hb2 f0)
      replace v0 := keepCell hk2 (keepCell hb2 v0)
      replace v1 := keepCell hk2 (keepCell hb2 v1)
      replace v2 := keepCell hk2 (keepCell hb2 v2)
      replace v3 := keepCell hk2 (keepCell hb2 v3)
      replace v4 := keepCell hk2 (keepCell hb2 v4)
      obtain ⟨g0, -, -, -⟩ := fault_cells w2 (.cells #[.int .i64 T.kd, .int .i64 T.nm, .string T.st, .slice o2 n2 c2, .slice o2' n2' c2'] 27) 0 0 0 0
      obtain ⟨x0, x1, x2, x3, x4⟩ := value_cells w2 T.kd T.nm T.st (.slice o2 n2 c2) (.slice o2' n2' c2') (.cells #[.int .i64 0, .int .i64 0, .int .i64 0, .int .i64 0] 30)
      have HV1 := hid (((HS1.out.onto hk1).onto hb2).onto hk2)
      have HV2 := hid (hs2.hv.onto hk2)
      have HB2 := hid (vonto (vonto (vonto HB1.out hk1) hb2) hk2)
      clear hb2 hk1 hk2 C2 hs2 HS1 HB1
      simp only [vv]
      go_upto_region 24 with fail
      generalize ((w2.alloc (.cells #[.int .i64 T.kd, .int .i64 T.nm, .string T.st, .slice o2 n2 c2, .slice o2' n2' c2'] 27)).alloc (.cells #[.int .i64 0, .int .i64 0, .int .i64 0, .int .i64 0] 30)) = W2 at f0 v0 v1 v2 v3 v4 g0 x0 x1 x2 x3 x4 HV1 HV2 HB2 ⊢
      have CS := hid (same_any (szT T) T T _ _ _ _ false W2 (Nat.le_refl _) HV1.out HV2.out)
      rw [same_me] at CS
      simp only [vv] at CS
      go_wp2_with fail
      go_at_call 20
      refine CS.out.mono ?_
      rintro e w3 ⟨rfl, hb3⟩
      replace v4 := keepCell hb3 v4
      have HB3 := hid (vonto HB2.out hb3)
      clear hb3 CS HB2
      go_wp2_with fail
      go_ret
      exact ⟨by first | rfl | exact ret_bool (by simp), HB3.out⟩
end Go.Proofs.YtkhjahpkbjafaaaGreatDoor
