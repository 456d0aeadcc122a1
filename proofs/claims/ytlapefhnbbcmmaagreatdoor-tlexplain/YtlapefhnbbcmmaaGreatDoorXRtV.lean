/- The statement TlexKeys: walked. -/
import Derived.Test.YtlapefhnbbcmmaaGreatDoorXEscTun
import Derived.Test.YtlapefhnbbcmmaaGreatDoorXRtH
import Derived.Test.YtlapefhnbbcmmaaGreatDoorXEscRTT
import Derived.Test.YtlapefhnbbcmmaaGreatDoorXRtR
import Derived.Test.YtlapefhnbbcmmaaGreatDoorXRtS
import Derived.Test.YtlapefhnbbcmmaaGreatDoorXRtT
import Derived.Test.YtlapefhnbbcmmaaGreatDoorXRtU
import Derived.Test.YtlapefhnbbcmmaaGreatDoorXMathSx
import Derived.Test.YtlapefhnbbcmmaaGreatDoorXMathSt2
import Derived.Test.YtlapefhnbbcmmaaGreatDoorXTlN
/- The document's Plain, walked whole. -/
namespace Go.Proofs.YtlapefhnbbcmmaaGreatDoor
open Go.RowKit

theorem rtunq_all : RtUnq := fun t a w ht ha hq => rtunq_in _ t a w ht ha hq rfl
end Go.Proofs.YtlapefhnbbcmmaaGreatDoor
namespace Go.Proofs.YtlapefhnbbcmmaaGreatDoor
open Go.RowKit

theorem nq_tn (l : List UInt8) : nqV (tnQ l) = .tuple #[vv (tnR l) nilS nilS, .int .i64 (tnE l)] := by
  unfold tnQ tnR tnE
  by_cases h1 : infB (unS l) = true
  · rw [if_pos h1, if_pos h1, if_pos h1]; rfl
  rw [if_neg h1, if_neg h1, if_neg h1]
  by_cases h2 : bsB l ≠ 0
  · rw [if_pos h2, if_pos h2, if_pos h2]
    cases psV (bsB l) (clnS (l.drop 2)) <;> rfl
  rw [if_neg h2, if_neg h2, if_neg h2]
  by_cases h3 : kdN (unS l) = 2
  · rw [if_pos h3, if_pos h3, if_pos h3]
    cases piV (clnS l) <;> rfl
  rw [if_neg h3, if_neg h3, if_neg h3]
  by_cases h4 : kdN (unS l) = 3
  · rw [if_pos h4, if_pos h4, if_pos h4]
    unfold numQ nuR nuE numR
    rw [mkS_list]
    cases hn : numB (noP (clnS l)) with
    | false => rfl
    | true =>
      cases hi : intB (noP (clnS l)) <;> rfl
  · rw [if_neg h4, if_neg h4, if_neg h4]; rfl
theorem tn_nil : tnE [] = 4 := by kernel_rfl
theorem pl_empty (T : List UInt8) (n : Nat) (h : plW T n = []) : plQ T n = noPR 4 (n : Nat) := by
  have hd : dayB [] = false := by kernel_rfl
  have hst : stB [] = false := by kernel_rfl
  have hse : (seT T n (plE T n)).2 = false := by
    unfold plW at h
    unfold seT seB
    rw [h, hd]
    exact hst
  unfold plQ
  rw [h, hse, if_neg (by decide), if_neg (by decide), if_neg (by decide), tn_nil, if_pos (by decide)]
theorem te_of (u : List UInt8) (h : VL u) : teI (mkS u) = if 4096 < (mkS u).size then 2 else 0 := by
  unfold teI
  rw [mkS_list, mkS_size, if_pos (show pos u (vlk u) = u.length from h)]
theorem rplain_in (t : ByteArray) (n : Nat) (w : World) (ht : t.size ≤ 1000000) (ha : n < t.size) :
    Calls Tryz.prog 9 #[.string t, .int .i64 (n : Int)] w fun e w' => e = .returned (plN t.data.toList n).V ∧ Below w.heap.size w w' := by
  have hz : t.data.toList.length = t.size := size_list t
  have hb : bt t.data.toList n = t[n].toNat := bt_at t n ha
  by_cases hq : t[n].toNat = 34 ∨ t[n].toNat = 39
  · have hp : plN t.data.toList n = psT t.data.toList n := by unfold plN; rw [hb, if_pos hq]
    rw [hp]
    have CT := hid (fun X => rtunq_all t n X ht ha hq)
    unfold psT
    have hval := ut_valid t.data.toList n
    generalize unqT t.data.toList (n : Int) = U at *
    obtain ⟨S, nx, bad⟩ := U
    simp only at CT hval ⊢
    by_cases h0 : 0 ≤ bad
    · rw [if_pos h0]
      rcases hq with hq | hq
      · exact rpQ34b t _ n _ _ w ht ha hq CT h0
      · exact rpQ39b t _ n _ _ w ht ha hq CT h0
    rw [if_neg h0, te_of S (hval (by omega))]
    by_cases h4 : 4096 < (mkS S).size
    · rw [if_pos h4, if_pos (by decide)]
      rcases hq with hq | hq
      · exact rpQ34l t _ n _ _ w ht ha hq CT h0 h4
      · exact rpQ39l t _ n _ _ w ht ha hq CT h0 h4
    · rw [if_neg h4, if_neg (by decide)]
      rcases hq with hq | hq
      · exact rpQ34k t _ n _ _ w ht ha hq CT h0 h4
      · exact rpQ39k t _ n _ _ w ht ha hq CT h0 h4
  have hp : plN t.data.toList n = plQ t.data.toList n := by unfold plN; rw [hb, if_neg hq]
  rw [hp]
  have j1 : ¬ t[n].toNat = 34 := fun e => hq (Or.inl e)
  have j2 : ¬ t[n].toNat = 39 := fun e => hq (Or.inr e)
  clear hp hb hq
  have CR := hid (fun X => rrow_any t n X ht (by omega))
  have hrl := run_leE rowC (t.data.toList.drop n)
  rw [List.length_drop, hz] at hrl
  have eE : plE t.data.toList n = n + run rowC (t.data.toList.drop n) := rfl
  generalize run rowC (t.data.toList.drop n) = m at *
  have hn : n + m ≤ t.size := by omega
  obtain ⟨R, hR⟩ : ∃ R, t.extract n (n + m) = R := ⟨_, rfl⟩
  have eW : plW t.data.toList n = R.data.toList := by unfold plW; rw [eE, ← hR, slc_ext]
  have eL : R.toList = plW t.data.toList n := by rw [Lib.toList_data, eW]
  have hRs : R.size ≤ 1000000 := by rw [← hR, ByteArray.size_extract]; omega
  have eS : slc t.data.toList n (n + m) = plW t.data.toList n := by unfold plW; rw [eE]
  by_cases h0 : plW t.data.toList n = []
  · rw [pl_empty _ _ h0]
    exact rpEm t R n m w ht ha hn j1 j2 CR hR (by rw [mkS_of R _ rfl, ← eW, h0]; rfl)
  have hne : ¬ R.toList = [] := by rw [eL]; exact h0
  by_cases h1 : plW t.data.toList n = [116, 114, 117, 101]
  · have hp : plQ t.data.toList n = ⟨leafT 1 1 ⟨#[]⟩, (n : Int) + (m : Int), 0, 0⟩ := by
      unfold plQ; rw [if_pos h1, eE]; rfl
    rw [hp]
    exact rpTr t R n m w ht ha hn j1 j2 CR hR hne (by rw [eL, h1]; rfl)
  have s1 : (R.toList == [116, 114, 117, 101]) = false := by rw [eL]; exact beq_eq_false_iff_ne.2 h1
  by_cases h2 : plW t.data.toList n = [102, 97, 108, 115, 101]
  · have hp : plQ t.data.toList n = ⟨leafT 1 0 ⟨#[]⟩, (n : Int) + (m : Int), 0, 0⟩ := by
      unfold plQ; rw [if_neg h1, if_pos h2, eE]; rfl
    rw [hp]
    exact rpFa t R n m w ht ha hn j1 j2 CR hR hne s1 (by rw [eL, h2]; rfl)
  have s2 : (R.toList == [102, 97, 108, 115, 101]) = false := by rw [eL]; exact beq_eq_false_iff_ne.2 h2
  have CD := hid (fun X => rday_any R X)
  have CS := hid (fun X => rstamp_any R X hRs)
  have CN := hid (fun X => rnumber_any R X hRs)
  rw [ds_same, ← eW] at CS
  rw [dn_same, nq_tn, ← eW] at CN
  rw [← eW] at CD
  have hQ : plQ t.data.toList n = if (seT t.data.toList n (n + m)).2 = true then ⟨stampR (mkS (slc t.data.toList n (seT t.data.toList n (n + m)).1)), ((seT t.data.toList n (n + m)).1 : Nat), 0, 0⟩
      else if tnE (plW t.data.toList n) ≠ 0 then noPR (tnE (plW t.data.toList n)) (n : Nat) else ⟨tnR (plW t.data.toList n), ((n + m : Nat) : Int), 0, 0⟩ := by
    unfold plQ; rw [if_neg h1, if_neg h2, eE]
  rw [hQ]
  clear hQ
  have eR : R = mkS (plW t.data.toList n) := mkS_of R _ eW.symm
  -- behind the one with a blank
  have fall : seB t.data.toList n (n + m) = false → (if (seT t.data.toList n (n + m)).2 = true then (⟨stampR (mkS (slc t.data.toList n (seT t.data.toList n (n + m)).1)), ((seT t.data.toList n (n + m)).1 : Nat), 0, 0⟩ : PR)
      else if tnE (plW t.data.toList n) ≠ 0 then noPR (tnE (plW t.data.toList n)) (n : Nat) else ⟨tnR (plW t.data.toList n), ((n + m : Nat) : Int), 0, 0⟩)
      = if stB (plW t.data.toList n) = true then ⟨leafT 7 0 R, (n : Int) + (m : Int), 0, 0⟩ else if tnE (plW t.data.toList n) ≠ 0 then noPR (tnE (plW t.data.toList n)) (n : Int) else ⟨tnR (plW t.data.toList n), (n : Int) + (m : Int), 0, 0⟩ := fun hs => by
    have e : seT t.data.toList n (n + m) = (n + m, stB (plW t.data.toList n)) := by unfold seT; rw [hs, if_neg (by decide), eS]
    rw [e]
    simp only
    by_cases hst : stB (plW t.data.toList n) = true
    · rw [if_pos hst, if_pos hst, eS]
      unfold stampR
      rw [if_pos (st_stamp hst), ← eR]; rfl
    · rw [if_neg hst, if_neg hst]; rfl
  obtain ⟨vk, vn, vs, hv⟩ := vv_parts (tnR (plW t.data.toList n))
  rw [hv] at CN
  have hPV : ∀ k : Int, (⟨tnR (plW t.data.toList n), k, 0, 0⟩ : PR).V = .tuple #[.agg #[.int .i64 vk, .int .i64 vn, .string vs, nilS, nilS], .int .i64 k, .int .i64 0, .int .i64 0] := fun k => by
    unfold PR.V; simp only; rw [hv]
  cases hday : dayB (plW t.data.toList n) with
  | false =>
    rw [hday] at CD
    have hs : seB t.data.toList n (n + m) = false := by unfold seB; rw [eS, hday]; rfl
    rw [fall hs]
    cases hst : stB (plW t.data.toList n) with
    | true =>
      rw [hst] at CS
      rw [if_pos rfl]
      exact rp1S t R n m w ht ha hn j1 j2 CR hR hne s1 s2 CD CS
    | false =>
      rw [hst] at CS
      rw [if_neg (by decide)]
      by_cases he : tnE (plW t.data.toList n) = 0
      · rw [if_neg (fun k => k he), hPV]
        exact rp1N t R vs n m vk vn _ w ht ha hn j1 j2 CR hR hne s1 s2 CD CS CN he
      · rw [if_pos he]
        exact rp1M t R vs n m vk vn _ w ht ha hn j1 j2 CR hR hne s1 s2 CD CS CN he
  | true =>
  rw [hday] at CD
  by_cases hx : n + m < t.size
  rotate_left
  · have hs : seB t.data.toList n (n + m) = false := by
      unfold seB; rw [bt_none (by omega), decide_eq_false (p := 256 = 32) (by decide), Bool.and_false, Bool.false_and]
    rw [fall hs]
    cases hst : stB (plW t.data.toList n) with
    | true =>
      rw [hst] at CS
      rw [if_pos rfl]
      exact rp2S t R n m w ht ha hn j1 j2 CR hR hne s1 s2 CD hx CS
    | false =>
      rw [hst] at CS
      rw [if_neg (by decide)]
      by_cases he : tnE (plW t.data.toList n) = 0
      · rw [if_neg (fun k => k he), hPV]
        exact rp2N t R vs n m vk vn _ w ht ha hn j1 j2 CR hR hne s1 s2 CD hx CS CN he
      · rw [if_pos he]
        exact rp2M t R vs n m vk vn _ w ht ha hn j1 j2 CR hR hne s1 s2 CD hx CS CN he
  have hbx : bt t.data.toList (n + m) = (t[n + m]'hx).toNat := bt_at t (n + m) hx
  by_cases hc : (t[n + m]'hx).toNat = 32
  rotate_left
  · have hs : seB t.data.toList n (n + m) = false := by
      unfold seB; rw [hbx, decide_eq_false hc, Bool.and_false, Bool.false_and]
    rw [fall hs]
    cases hst : stB (plW t.data.toList n) with
    | true =>
      rw [hst] at CS
      rw [if_pos rfl]
      exact rp3S t R n m w ht ha hn j1 j2 CR hR hne s1 s2 CD hx hc CS
    | false =>
      rw [hst] at CS
      rw [if_neg (by decide)]
      by_cases he : tnE (plW t.data.toList n) = 0
      · rw [if_neg (fun k => k he), hPV]
        exact rp3N t R vs n m vk vn _ w ht ha hn j1 j2 CR hR hne s1 s2 CD hx hc CS CN he
      · rw [if_pos he]
        exact rp3M t R vs n m vk vn _ w ht ha hn j1 j2 CR hR hne s1 s2 CD hx hc CS CN he
  have CR2 := hid (fun X => rrow_any t (n + m + 1) X ht (by omega))
  have hrl2 := run_leE rowC (t.data.toList.drop (n + m + 1))
  rw [List.length_drop, hz] at hrl2
  have eSE : seE t.data.toList (n + m) = n + m + 1 + run rowC (t.data.toList.drop (n + m + 1)) := rfl
  generalize run rowC (t.data.toList.drop (n + m + 1)) = m2 at *
  rw [show ((n + m + 1 : Nat) : Int) = (n : Int) + (m : Int) + 1 by omega] at CR2
  obtain ⟨L, hL⟩ : ∃ L, t.extract n (n + m + 1 + m2) = L := ⟨_, rfl⟩
  have eLl : slc t.data.toList n (n + m + 1 + m2) = L.data.toList := by rw [← hL, slc_ext]
  have hLs : L.size ≤ 1000000 := by rw [← hL, ByteArray.size_extract]; omega
  have hmm : n + m + 1 + m2 ≤ t.size := by omega
  have CL := hid (fun X => rstamp_any L X hLs)
  rw [ds_same] at CL
  cases hsl : stB L.data.toList with
  | true =>
    rw [hsl] at CL
    have e : seT t.data.toList n (n + m) = (n + m + 1 + m2, true) := by
      unfold seT
      rw [if_pos (by unfold seB; rw [eS, hday, hbx, decide_eq_true hc, eSE, eLl, hsl]; rfl), eSE]
    rw [e, if_pos rfl]
    simp only
    rw [eLl]
    have hpv : (⟨stampR (mkS L.data.toList), ((n + m + 1 + m2 : Nat) : Int), 0, 0⟩ : PR) = ⟨leafT 7 0 L, (n : Int) + (m : Int) + 1 + (m2 : Int), 0, 0⟩ := by
      unfold stampR
      rw [if_pos (st_stamp hsl), ← mkS_of L _ rfl]; rfl
    rw [hpv]
    exact rpX t R L n m m2 w ht ha hn j1 j2 CR hR hne s1 s2 CD hx hc CR2 hmm hL CL
  | false =>
    rw [hsl] at CL
    have hs : seB t.data.toList n (n + m) = false := by
      unfold seB; rw [eSE, eLl, hsl, Bool.and_false]
    rw [fall hs]
    cases hst : stB (plW t.data.toList n) with
    | true =>
      rw [hst] at CS
      rw [if_pos rfl]
      exact rpBS t R L n m m2 w ht ha hn j1 j2 CR hR hne s1 s2 CD hx hc CR2 hmm hL CL CS
    | false =>
      rw [hst] at CS
      rw [if_neg (by decide)]
      by_cases he : tnE (plW t.data.toList n) = 0
      · rw [if_neg (fun k => k he), hPV]
        exact rpBN t R L vs n m m2 vk vn _ w ht ha hn j1 j2 CR hR hne s1 s2 CD hx hc CR2 hmm hL CL CS CN he
      · rw [if_pos he]
        exact rpBM t R L vs n m m2 vk vn _ w ht ha hn j1 j2 CR hR hne s1 s2 CD hx hc CR2 hmm hL CL CS CN he
theorem rplain_any (t : ByteArray) (a : Int) (w : World) (ht : t.size ≤ 1000000) :
    Calls Tryz.prog 9 #[.string t, .int .i64 a] w fun e w' => e = .returned (plT t.data.toList a).V ∧ Below w.heap.size w w' := by
  have hz : t.data.toList.length = t.size := size_list t
  by_cases h0 : a < 0
  · have hp : plT t.data.toList a = noPR 4 0 := by
      have e : plc t.data.toList a = 0 := by unfold plc; rw [if_pos h0]
      unfold plT; rw [e, if_pos (by omega)]
    rw [hp]
    exact rpNeg t a w h0
  by_cases h1 : (t.size : Int) ≤ a
  · have hp : plT t.data.toList a = noPR 4 (t.size : Int) := by
      by_cases h2 : (t.size : Int) < a
      · have e : plc t.data.toList a = (t.size : Int) := by unfold plc; rw [if_neg h0, hz, if_pos h2]
        unfold plT; rw [e, if_pos (by omega)]
      · obtain rfl : a = (t.size : Int) := by omega
        have e : plc t.data.toList (t.size : Int) = (t.size : Int) := plc_nat _ _ (by omega)
        have e2 : plE t.data.toList t.size = t.size := by unfold plE; rw [List.drop_eq_nil_of_le (by omega)]; rfl
        unfold plT
        rw [e, if_neg (by simp), Int.toNat_natCast]
        unfold plN
        rw [bt_none (by omega), if_neg (by decide)]
        exact pl_empty _ _ (by unfold plW slc; rw [e2, Nat.sub_self, List.take_zero])
    rw [hp]
    exact rpOver t a w h0 h1 ht
  obtain ⟨n, rfl⟩ : ∃ n : Nat, a = (n : Int) := ⟨a.toNat, by omega⟩
  have hp : plT t.data.toList (n : Int) = plN t.data.toList n := by
    unfold plT; rw [plc_nat _ _ (by omega), if_neg (by simp), Int.toNat_natCast]
  rw [hp]
  exact rplain_in t n w ht (by omega)
end Go.Proofs.YtlapefhnbbcmmaaGreatDoor
