/- The document's side: a path's text. -/
import Derived.Test.YtjffhjdjoankcaaGreatDoorRef5A
import Derived.Test.YtjffhjdjoankcaaGreatDoorRefDecE
namespace Go.Proofs.YtjffhjdjoankcaaGreatDoor
open Go.RowKit

theorem txt_itoa {n : Int} (h : 0 ≤ n) : txt n = Lib.itoa n := by
  obtain ⟨u, rfl⟩ : ∃ u : Nat, n = u := ⟨n.toNat, by omega⟩
  rw [Lib.itoa_nonneg, dec_nat]
  unfold txt
  rw [if_neg (by omega)]
  simp
theorem text_snoc (p : List PStep) (s : PStep) : textP (p ++ [s]) = textP p ++ (47 :: stepT s) := by rw [text_app]; unfold textP; simp
set_option maxRecDepth 100000 in
set_option maxHeartbeats 2000000 in
theorem t5_any (p : List PStep) (v : Value) (w : World) (hp : InP w p v) (hf : ∀ s ∈ p, Frm s) (hk : ∀ s ∈ p, Small s) (hl : p.length ≤ 1000000) :
    Calls Tryz.prog 20 #[v] w fun e w' => e = .returned (.string (mkS (textP p))) ∧ Below w.heap.size w w' := by
  obtain ⟨a, ⟨o, c, rfl, g1, g2, g3⟩, gc⟩ := hp
  unfold maxLen at g2
  have GC := hid gc
  have GK := hid hk
  have GF := hid hf
  clear gc hk hf
  go_enter Tryz.func20, Tryz.ntmps20
  go_wp2_with fail
  go_loopw [3, 4] (fun v i wr => ∃ (j : Nat) (A : ByteArray), j ≤ p.length ∧ i = .int .i64 j ∧ v = .string A ∧ A.size ≤ j * 2000003 ∧ Hid (A = mkS (textP (p.take j))) ∧ Hid (Below w.heap.size w wr)) (fun _ i _ => p.length - (intOf i).toNat)
  case atStart => exact ⟨0, ⟨#[]⟩, Nat.zero_le _, rfl, rfl, Nat.zero_le _, hid rfl, Below.refl _ _⟩
  case round =>
    obtain ⟨j, A, hj, rfl, rfl, hA, HA, HBW⟩ := hrel
    have hj6 : j * 2000003 ≤ 2000003000000 := by omega
    by_cases hlt : j < p.length
    · obtain ⟨s, hs⟩ : ∃ s, p[j]? = some s := ⟨p[j], List.getElem?_eq_getElem hlt⟩
      obtain rfl := g3 (by omega)
      obtain ⟨s0, s1, s2, s3⟩ := GC.out j s hs
      have t0 := keepCell HBW.out s0; have t1 := keepCell HBW.out s1; have t2 := keepCell HBW.out s2
      have hmem := List.mem_of_getElem? hs
      have HSM := hid (GK.out s hmem)
      have hsl := stepT_len HSM.out
      have HNX : Hid (∀ m : ByteArray, m = mkS (stepT s) → (A ++ ⟨#[47]⟩) ++ m = mkS (textP (p.take (j + 1)))) := hid (fun m hm => by
        have e : p.take (j + 1) = p.take j ++ [s] := by
          obtain ⟨h1, h2⟩ := List.getElem?_eq_some_iff.1 hs
          rw [List.take_succ_eq_append_getElem h1, h2]
        rw [e, text_snoc, HA.out, hm, show (⟨#[47]⟩ : ByteArray) = mkS [47] from rfl, app_mkS, app_mkS]
        simp)
      clear s0 s1 s2 HA
      rcases GF.out s hmem with ⟨hpl, hky, hn0, hn1⟩ | ⟨hpl, hat⟩
      · have hst : stepT s = Lib.itoa s.at_ := by unfold stepT; rw [if_pos hpl]
        rw [hpl] at t2
        obtain ⟨m, hm⟩ : ∃ m, mkS (stepT s) = m := ⟨_, rfl⟩
        have hms : m.size ≤ 2000002 := by rw [← hm, ← size_list, mkS_list]; exact hsl
        have HN2 := hid (HNX.out m hm.symm)
        have CT : Hid (∀ X, Calls Tryz.prog 48 #[.int .i64 s.at_] X fun e w' => e = .returned (.string m) ∧ Below X.heap.size X w') := hid (fun X => by
          rw [← hm, hst, ← txt_itoa hn0]
          exact text_any s.at_ X (by omega) (by omega))
        clear HNX hst hm hs s3 hmem hky
        go_wp2_with (go_at_call 48; go_must (refine (CT.out _).mono ?_; rintro e w1 ⟨rfl, hb1⟩))
        go_roundw
        case rel => exact ⟨j + 1, _, hlt, by go_num, rfl, by rw [ByteArray.size_append, ByteArray.size_append]; show A.size + 1 + _ ≤ _; omega, HN2, vonto HBW.out hb1⟩
        case measure => simp [intOf]; omega
      · have hst : stepT s = keyT s.key.data.toList := by unfold stepT; rw [if_neg (by rw [hpl]; decide)]
        rw [hpl] at t2
        obtain ⟨m, hm⟩ : ∃ m, mkS (stepT s) = m := ⟨_, rfl⟩
        have hms : m.size ≤ 2000002 := by rw [← hm, ← size_list, mkS_list]; exact hsl
        have HN2 := hid (HNX.out m hm.symm)
        have CK : Hid (∀ X, Calls Tryz.prog 49 #[.string s.key] X fun e w' => e = .returned (.string m) ∧ w' = X) := hid (fun X => by
          rw [← hm, hst]
          exact kt5_any s.key X (by have := HSM.out.1; omega))
        clear HNX hst hm hs s3 hmem hat
        go_wp2_with (go_at_call 49; go_must (refine (CK.out _).mono ?_; rintro e w1 ⟨rfl, rfl⟩))
        go_roundw
        case rel => exact ⟨j + 1, _, hlt, by go_num, rfl, by rw [ByteArray.size_append, ByteArray.size_append]; show A.size + 1 + _ ≤ _; omega, HN2, HBW⟩
        case measure => simp [intOf]; omega
    · have HR := hid (show A = mkS (textP p) by rw [HA.out, List.take_of_length_le (by omega)])
      clear HA
      go_wp2_with fail
      go_ret
      exact ⟨ret_st HR.out, HBW.out⟩
end Go.Proofs.YtjffhjdjoankcaaGreatDoor
