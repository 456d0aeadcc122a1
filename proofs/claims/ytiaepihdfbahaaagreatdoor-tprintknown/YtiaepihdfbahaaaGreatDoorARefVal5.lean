/- The program's printer of TOML: Print. -/
import Derived.Test.YtiaepihdfbahaaaGreatDoorATqJ
import Derived.Test.YtiaepihdfbahaaaGreatDoorAMathPlace
import Derived.Test.YtiaepihdfbahaaaGreatDoorAVSameT
import Derived.Deep.LoopGhost
import Derived.Test.YtiaepihdfbahaaaGreatDoorARefDec
import Derived.Test.YtiaepihdfbahaaaGreatDoorAOrders
import Derived.Test.YtiaepihdfbahaaaGreatDoorARefOne
/- The document's own likeness of trees, walked: Same. -/
/- The document's own judgement of texts in trees, walked: Str, Stamp. -/
namespace Go.Proofs.YtiaepihdfbahaaaGreatDoor
open Go.RowKit

theorem thd_all : ∀ N : Nat, HdOk N
  | 0 => fun T o1 o2 n1 c1 n2 c2 q b l u w h => by have := szT_pos T; omega
  | N + 1 => theaded_any N (ttable_of N (thd_all N))
theorem ttb_all (N : Nat) : TbOk N := ttable_of N (thd_all N)
theorem bdX_gt {t : VT} (h : plnD t = false) (s q : List UInt8) : s.length < (bdX t s q).length := by
  cases t with
  | mk k n u L K V =>
  rw [bdX]
  by_cases h6 : k = 6
  · rw [if_pos h6]
    have h1 := hh_ge s (hd1 q)
    have h1' : (hd1 q).length = q.length + 2 := by unfold hd1; simp
    have h2 := plM_ge V K (hhB s (hd1 q))
    have h3 := bdM_ge V K (plM V K (hhB s (hd1 q))) q
    omega
  · rw [if_neg h6]
    have hd : dtbB (.mk k n u L K V) = true := by
      have hk : (decide ((VT.mk k n u L K V).kd = 6)) = false := decide_eq_false h6
      unfold plnD at h
      rw [hk] at h
      simpa using h
    rw [if_pos hd]
    unfold dtbB at hd
    rw [Bool.and_eq_true] at hd
    have h2 := hd.2
    unfold tblB at h2
    rw [Bool.and_eq_true] at h2
    have h3 : 0 < L.length := of_decide_eq_true h2.2
    cases L with
    | nil => simp at h3
    | cons t r =>
      rw [bdL]
      have h1 := hh_ge s (hd2 q)
      have h1' : (hd2 q).length = q.length + 4 := by unfold hd2; simp
      have h4 := bdT_ge t (hhB s (hd2 q)) q
      have h5 := bdL_ge r (bdT t (hhB s (hd2 q)) q) q
      omega
theorem bdM_ne {V : List VT} {K : List ByteArray} (hK : K.length = V.length) (h : ¬ V = []) (p : List UInt8) : bdM V K (plM V K []) p ≠ [] := by
  intro e
  cases V with
  | nil => exact h rfl
  | cons t r =>
  have h0 := congrArg List.length e
  cases hp : plnD t with
  | true =>
    rw [plM] at h0
    have h1 := bdM_ge (t :: r) K (plM r K.tail (plpB t (K.headD ⟨#[]⟩).data.toList [])) p
    have h2 := plM_ge r K.tail (plpB t (K.headD ⟨#[]⟩).data.toList [])
    have h3 : 0 < (plpB t (K.headD ⟨#[]⟩).data.toList []).length := by
      unfold plpB; rw [if_pos hp]; simp only [List.length_append, List.length_cons, List.length_nil]; omega
    simp only [List.length_nil] at h0
    omega
  | false =>
    rw [bdM] at h0
    have h1 := bdX_gt hp (plM (t :: r) K []) (jpB p (K.headD ⟨#[]⟩).data.toList)
    have h2 := bdM_ge r K.tail (bdX t (plM (t :: r) K []) (jpB p (K.headD ⟨#[]⟩).data.toList)) p
    simp only [List.length_nil] at h0
    omega
set_option maxRecDepth 100000 in
set_option maxHeartbeats 2000000 in
theorem ttable_nil (b : Nat) (o : Option Addr) (c : Nat) (p : ByteArray) (w : World) :
    Calls Tryz.prog 16 #[.pointer (some ⟨b, 0, none⟩), .slice o 0 c, .string p] w fun e w' => e = .returned (.tuple #[]) ∧ w' = w := by
  go_enter Tryz.func16, Tryz.ntmps16
  go_wp2_with fail
  go_loopw [12] (fun i wr => i = .int .i64 0 ∧ wr = w) (fun i _ => 0)
  case atStart => exact ⟨rfl, rfl⟩
  case round =>
    obtain ⟨rfl, rfl⟩ := hrel
    go_wp2_with fail
    go_loopw [29] (fun i wx => i = .int .i64 0 ∧ wx = wr) (fun i _ => 0)
    case atStart => exact ⟨rfl, rfl⟩
    case round =>
      obtain ⟨rfl, rfl⟩ := hrel
      go_wp2_with fail
      first | go_end0 | refine bodyPost_ret (results_none rfl _ _ _) rfl ?_
      exact ⟨rfl, rfl⟩
/-- what is printed -/
def tprB (T : VT) : List UInt8 := if tomB T = true then bdT T [] [] else []
theorem may_sz {T : VT} (h : tomB T = true) : T.kd = 6 ∧ plainT T = true ∧ szT T ≤ 4096 ∧ hgT T ≤ 32 := by
  unfold tomB at h
  rw [Bool.and_eq_true, Bool.and_eq_true] at h
  obtain ⟨h1, h2, h3⟩ := h
  obtain ⟨g1, g2, g3⟩ := good_sz h2
  exact ⟨of_decide_eq_true h1, g3, by omega, by omega⟩
set_option maxRecDepth 100000 in
set_option maxHeartbeats 4000000 in
theorem tprint_any (T : VT) (x y : Value) (w : World) (hg : GlobN w) (hgw : GlobW w) (hT : HV w T x y) :
    Calls Tryz.prog 9 #[vv T x y] w fun e w' => e = .returned (.string (mkS (tprB T))) ∧ Below w.heap.size w w' := by
  have CM := hid (fun X (hX : Below w.heap.size w X) => tpmay_any T x y X (hg.on hX) (hT.onto hX))
  obtain ⟨o1, n1, c1, o2, n2, c2, rfl, rfl⟩ := hv_slices hT
  have hwn := hT.wn
  have HT := hid hT
  have HGW := hid hgw
  obtain ⟨tk, tn, ts, h1, h2, h3⟩ : ∃ k n t, T.kd = k ∧ T.nm = n ∧ T.st = t := ⟨_, _, _, rfl, rfl, rfl⟩
  obtain ⟨W0, hW0⟩ : ∃ W0, w.alloc (.cells #[.int .i64 tk, .int .i64 tn, .string ts, .slice o1 n1 c1, .slice o2 n2 c2] 27) = W0 := ⟨_, rfl⟩
  obtain ⟨g0, g1, g2, g3, g4⟩ := tpbox w (.int .i64 tk) (.int .i64 tn) (.string ts) (.slice o1 n1 c1) (.slice o2 n2 c2)
  have hb0 : Below w.heap.size w W0 := by rw [← hW0]; exact valloc_bel (Below.refl _ _) _
  rw [hW0] at g0 g1 g2 g3 g4
  have HB0 := hid hb0
  have HR : Hid (tprB T = if tomB T = true then bdT T [] [] else []) := hid rfl
  have HMS := hid (fun h => may_sz (T := T) h)
  simp only [vv] at CM ⊢
  rw [h1, h2, h3] at CM ⊢
  clear hg hgw hT hb0 h2 h3
  generalize hq : tomB T = q at CM HR HMS
  generalize tprB T = R at HR ⊢
  cases q with
  | false =>
    have HR1 : Hid (R = []) := hid HR.out
    clear HR HMS hq hwn h1
    go_enter Tryz.func9, Tryz.ntmps9
    go_upto_region 1 with fail
    clear hW0
    go_wp2_with fail
    go_at_call 10
    refine (CM.out _ HB0.out).mono ?_
    rintro e w1 ⟨rfl, hb1⟩
    have HB1 := hid (vonto HB0.out hb1)
    clear hb1 CM
    go_wp2_with fail
    go_ret
    exact ⟨by rw [HR1.out]; rfl, HB1.out⟩
  | true =>
  obtain ⟨hk6, hpl, hsz, hhg⟩ := HMS.out rfl
  have HR1 : R = bdT T [] [] := HR.out
  cases T with
  | mk k n s L K V =>
  rw [bdT] at HR1
  have hI := hv_inM HT.out
  have hn2 : n2 = V.length := by
    obtain ⟨b', fp, fq, ⟨oM, capM, hsl, -⟩, -⟩ := hI
    injection hsl
  subst hn2
  have hpl0 := hpl
  rw [plainT, Bool.and_eq_true, Bool.and_eq_true] at hpl
  obtain ⟨⟨hnode, hpL⟩, hpV⟩ := hpl
  rw [wnT] at hwn
  obtain ⟨hn, hK, hwL, hwV⟩ := hwn
  have hs1 : szT (.mk k n s L K V) = 1 + szL L + szL V := by rw [szT]
  have hh1 : hgT (.mk k n s L K V) = 1 + max (hgL L) (hgL V) := by rw [hgT]
  rw [hs1] at hsz
  rw [hh1] at hhg
  have hlen : (bdM V K (plM V K []) []).length ≤ 10000000000 := by
    have p1 := plM_len V K [] hpV hwV hK (keys_le hnode hK)
    have p2 := bdM_len V K (plM V K []) [] hpV hwV hK (keys_le hnode hK) (by simp only [List.length_nil]; omega)
    simp only [List.length_nil] at p1
    omega
  have HV0 := hid hI
  by_cases hV : V = []
  · have HR2 : Hid (mkS R = ⟨#[]⟩) := hid (by rw [HR1]; subst hV; rw [plM, bdM]; rfl)
    have hv0 : V.length = 0 := by rw [hV]; rfl
    rw [hv0] at CM g4 hW0 ⊢
    clear HR HMS hq HR1 hI HV0 hpl0 hnode hpL hpV hn hK hwL hwV hs1 hh1 hsz hhg hlen hV hv0 HT h1 hk6
    go_enter Tryz.func9, Tryz.ntmps9
    go_upto_region 1 with fail
    clear hW0
    go_wp2_with fail
    go_at_call 10
    refine (CM.out _ HB0.out).mono ?_
    rintro e w1 ⟨rfl, hb1⟩
    have g4 := keepCell hb1 g4
    have HB1 := hid (vonto HB0.out hb1)
    clear hb1 CM g0 g1 g2 g3
    go_upto_region 4 with fail
    refine tpwp_gen ?_
    intro W hW
    have hbk : W.heap[w1.heap.size]? = some (.cells #[.pointer none, .slice none 0 0] 43 (0, 0)) := by rw [hW]; exact heap_alloc_new w1 _
    have hbW : Below w1.heap.size w1 W := by rw [hW]; exact valloc_bel (Below.refl _ _) _
    have g4 := keepCell hbW g4
    have HBW := hid (vonto HB1.out hbW)
    have CS := hid (tstring_nil w1.heap.size W hbk)
    have CT := hid (fun (o : Option Addr) (c : Nat) (p : ByteArray) => ttable_nil w1.heap.size o c p W)
    have hz1 := HB1.out.size
    clear hW hbW hbk
    go_wp2_with fail
    go_at_call 16
    refine (CT.out _ _ _).mono ?_
    rintro e w2 ⟨rfl, hw2⟩
    obtain rfl := hw2.symm
    clear CT
    go_wp2_with fail
    go_at_call 17
    refine CS.out.mono ?_
    rintro e w3 ⟨rfl, hb3⟩
    have HB3 := hid (HBW.out.trans (hb3.mono hz1))
    clear hb3 CS
    go_wp2_with fail
    go_ret
    exact ⟨by rw [HR2.out]; rfl, HB3.out⟩
  · have hne := bdM_ne (p := []) hK hV
    have HTB : Hid (∀ (b : Nat) (u W : World), InM u K V (.slice o2 V.length c2) → Below u.heap.size u W → u.heap.size ≤ b → GlobW u → Tr W b [] → Calls Tryz.prog 16 #[.pointer (some ⟨b, 0, none⟩), .slice o2 V.length c2, .string ⟨#[]⟩] W (Wt b R W)) := hid (fun b u W h1 h2 h3 h4 h5 => by
      have := ttb_all (szL V) V K o2 V.length c2 ⟨#[]⟩ b [] u W (Nat.le_refl _) h1 h2 h3 h4 hpV hwV (keys_le hnode hK) h5 (by omega) (by show 0 + _ ≤ _; omega) (by exact hlen)
      rw [HR1]
      exact this)
    have HNE : Hid (R ≠ []) := hid (by rw [HR1]; exact hne)
    have hVl : 0 < V.length := List.length_pos_iff.2 hV
    clear HR HMS hq HR1 hI hpl0 hnode hpL hpV hn hK hwL hwV hs1 hh1 hsz hhg hlen hV HT h1 hk6 hne
    go_enter Tryz.func9, Tryz.ntmps9
    go_upto_region 1 with fail
    clear hW0
    go_wp2_with fail
    go_at_call 10
    refine (CM.out _ HB0.out).mono ?_
    rintro e w1 ⟨rfl, hb1⟩
    have g4 := keepCell hb1 g4
    have HB1 := hid (vonto HB0.out hb1)
    clear hb1 CM g0 g1 g2 g3
    go_upto_region 4 with fail
    refine tpwp_gen ?_
    intro W hW
    have hbk : W.heap[w1.heap.size]? = some (.cells #[.pointer none, .slice none 0 0] 43 (0, 0)) := by rw [hW]; exact heap_alloc_new w1 _
    have hbW : Below w1.heap.size w1 W := by rw [hW]; exact valloc_bel (Below.refl _ _) _
    have hTr : Tr W w1.heap.size [] := ⟨.pointer none, .slice none 0 0, hbk, Or.inl rfl, World.ownsRow_nil _ _ _ _⟩
    have g4 := keepCell hbW g4
    have hz1 := HB1.out.size
    have CT := hid (HTB.out w1.heap.size w W HV0.out (vonto HB1.out hbW) hz1 HGW.out hTr)
    have HBW := hid (vonto HB1.out hbW)
    clear hW hbW hbk hTr HTB
    go_wp2_with fail
    go_at_call 16
    refine CT.out.mono ?_
    rintro e w2 ⟨rfl, hp2, hk2⟩
    have CS := hid (tstring_any w1.heap.size R w2 hp2 HNE.out)
    have HB2 := hid (HBW.out.trans (hk2.1.mono hz1))
    clear hp2 hk2 CT
    go_wp2_with fail
    go_at_call 17
    refine CS.out.mono ?_
    rintro e w3 ⟨rfl, hb3⟩
    have HB3 := hid (HB2.out.trans (hb3.mono hz1))
    clear hb3 CS
    go_wp2_with fail
    go_ret
    exact ⟨rfl, HB3.out⟩
end Go.Proofs.YtiaepihdfbahaaaGreatDoor
namespace Go.Proofs.YtiaepihdfbahaaaGreatDoor
open Go.RowKit

end Go.Proofs.YtiaepihdfbahaaaGreatDoor
namespace Go.Proofs.YtiaepihdfbahaaaGreatDoor
open Go.RowKit

set_option maxRecDepth 100000 in
set_option maxHeartbeats 400000 in
theorem str_any (s : ByteArray) (w : World) (hs : s.size ≤ maxLen) :
    Calls Tryz.prog 65 #[.string s] w fun e w' => e = .returned (.bool (strOkB s)) ∧ Below w.heap.size w w' := by
  have HS := hid hs
  unfold maxLen at hs
  by_cases h4 : s.size ≤ 4096
  · have H := hid (show strOkB s = decide (rvI s.data.toList < 0) by unfold strOkB; rw [decide_eq_true h4]; rfl)
    go_enter Tryz.func65, Tryz.ntmps65
    go_wp2_with (go_at_call 104; go_must (refine (rvalid_any _ _ HS.out).mono ?_; rintro e w1 ⟨rfl, hb1⟩))
    go_ret
    exact ⟨ret_bool H.out.symm, hb1⟩
  · have H := hid (show strOkB s = false by unfold strOkB; rw [decide_eq_false h4]; rfl)
    go_enter Tryz.func65, Tryz.ntmps65
    go_wp2_with fail
    go_ret
    exact ⟨ret_bool H.out.symm, Below.refl _ _⟩
set_option maxRecDepth 100000 in
set_option maxHeartbeats 400000 in
theorem stamp_any (s : ByteArray) (w : World) (hs : s.size ≤ maxLen) :
    Calls Tryz.prog 66 #[.string s] w fun e w' => e = .returned (.bool (stampB s)) ∧ w' = w := by
  unfold maxLen at hs
  have HZ := hid (size_list s)
  by_cases h1 : s.size < 1
  · have H := hid (show stampB s = false by unfold stampB; rw [decide_eq_false (by omega)]; rfl)
    go_enter Tryz.func66, Tryz.ntmps66
    go_wp2_with fail
    go_ret
    exact ⟨ret_bool H.out.symm, rfl⟩
  · by_cases h2 : s.size > 64
    · have H := hid (show stampB s = false by unfold stampB; rw [decide_eq_false (show ¬ s.size ≤ 64 by omega)]; simp)
      go_enter Tryz.func66, Tryz.ntmps66
      go_wp2_with fail
      go_ret
      exact ⟨ret_bool H.out.symm, rfl⟩
    · have H := hid (show stampB s = s.data.toList.all (fun b => decide (32 ≤ b.toNat) && decide (b.toNat ≤ 126)) by
        unfold stampB; rw [decide_eq_true (show 1 ≤ s.size by omega), decide_eq_true (show s.size ≤ 64 by omega)]; rfl)
      go_enter Tryz.func66, Tryz.ntmps66
      go_wp2_with fail
      go_loop [3] (fun i => ∃ j : Nat, j ≤ s.size ∧ i = .int .i64 j ∧ Hid (∀ k (h : k < s.size), k < j → 32 ≤ s[k].toNat ∧ s[k].toNat ≤ 126)) (fun i => s.size - (intOf i).toNat)
      case atStart => exact ⟨0, Nat.zero_le _, rfl, fun k h hk => absurd hk (by omega)⟩
      case round =>
        obtain ⟨j, hj, rfl, HJ⟩ := hrel
        by_cases hlt : j < s.size
        · have HG := hid (getD_at s j hlt)
          by_cases h3 : s[j].toNat < 32
          · have HF := hid (show stampB s = false by
              rw [H.out, Bool.eq_false_iff]; intro hc
              have := List.all_eq_true.1 hc s[j] (by rw [← HG.out, List.getD, List.getElem?_eq_getElem (by rw [HZ.out]; exact hlt)]; exact List.getElem_mem _)
              simp at this; omega)
            go_wp2_with fail
            go_ret
            exact ⟨ret_bool HF.out.symm, rfl⟩
          · by_cases h4 : s[j].toNat > 126
            · have HF := hid (show stampB s = false by
                rw [H.out, Bool.eq_false_iff]; intro hc
                have := List.all_eq_true.1 hc s[j] (by rw [← HG.out, List.getD, List.getElem?_eq_getElem (by rw [HZ.out]; exact hlt)]; exact List.getElem_mem _)
                simp at this; omega)
              go_wp2_with fail
              go_ret
              exact ⟨ret_bool HF.out.symm, rfl⟩
            · go_wp2_with fail
              go_round
              case rel => exact ⟨j + 1, hlt, val_int (by omega), fun k h hk => by
                by_cases e : k = j
                · subst e; exact ⟨by omega, by omega⟩
                · exact HJ.out k h (by omega)⟩
              case measure => simp [intOf]; omega
        · have HF := hid (show stampB s = true by
            rw [H.out]; refine List.all_eq_true.2 fun b hb => ?_
            obtain ⟨k, hk, rfl⟩ := List.getElem_of_mem hb
            have hk' : k < s.size := by rw [← HZ.out]; exact hk
            have := HJ.out k hk' (by omega)
            simp; exact this)
          go_wp2_with fail
          go_ret
          exact ⟨ret_bool HF.out.symm, rfl⟩
end Go.Proofs.YtiaepihdfbahaaaGreatDoor
