/- The program's printer of TOML: headers, and what stands below them. -/
import Derived.Test.YtiaepihdfbahaaaGreatDoorAMathBl
import Derived.Test.YtiaepihdfbahaaaGreatDoorAMathIn
/- The program's printer of TOML: headed, walked over table. -/
/- The program's printer of TOML: headed at a list of maps. -/
/- The program's printer of TOML: table; Print. -/
namespace Go.Proofs.YtiaepihdfbahaaaGreatDoor
open Go.RowKit

set_option maxRecDepth 100000 in
set_option maxHeartbeats 2000000 in
theorem theader_of (b : Nat) (l R : List UInt8) (head q : ByteArray) (o : Option Addr) (n c : Nat) (w : World) (h : Tr w b l) (hl : l.length ≤ 1000000000000) (hh : head.size ≤ 1000000)
    (CT : ∀ X, Kt b w X → Tr X b (hhB l head.data.toList) → Calls Tryz.prog 16 #[.pointer (some ⟨b, 0, none⟩), .slice o n c, .string q] X (Wt b R X)) :
    Calls Tryz.prog 55 #[.pointer (some ⟨b, 0, none⟩), .string head, .slice o n c, .string q] w (Wt b R w) := by
  have CL := hid (tlen_any b l w h)
  have HP := hid h
  have HCT := hid CT
  have CW := hid (fun (m : ByteArray) (l' : List UInt8) X (hm : m.size ≤ 2000000) (hX : Tr X b l') (hl' : l'.length ≤ 1000000000010) => twrite_any b l' m X hX (by omega))
  have HN : Hid ((head ++ (⟨#[10]⟩ : ByteArray)).size ≤ 2000000) := hid (by rw [ByteArray.size_append]; show head.size + 1 ≤ _; omega)
  have HA : Hid ((head ++ (⟨#[10]⟩ : ByteArray)).data.toList = head.data.toList ++ [10]) := hid (by simp)
  clear h CT
  by_cases h0 : l.length = 0
  · have hE : Hid (hhB l head.data.toList = l ++ (head ++ (⟨#[10]⟩ : ByteArray)).data.toList) := hid (by
      rw [HA.out]; unfold hhB; rw [if_pos h0, List.eq_nil_of_length_eq_zero h0]; simp)
    have f0 : ¬ (0 : Int) < (l.length : Int) := by omega
    go_enter Tryz.func55, Tryz.ntmps55
    go_wp2_with fail
    go_at_call 80
    refine CL.out.mono ?_
    rintro e w1 ⟨rfl, hw1⟩
    obtain rfl := hw1.symm
    clear CL
    go_wp2_with fail
    go_at_call 31
    refine (CW.out _ l _ HN.out HP.out (by omega)).mono ?_
    rintro e w2 ⟨rfl, hp2, hk2⟩
    rw [← hE.out] at hp2
    have C1 := hid (HCT.out w2 hk2 hp2)
    have HK2 := hid hk2
    clear hp2 hk2
    go_wp2_with fail
    go_at_call 16
    refine C1.out.mono ?_
    rintro e w3 ⟨rfl, hp3, hk3⟩
    go_wp2_with fail
    first | go_end0 | refine bodyPost_ret (results_none rfl _ _ _) rfl ?_
    exact ⟨rfl, hp3, HK2.out.trans hk3⟩
  · have hE : Hid (hhB l head.data.toList = l ++ (⟨#[10]⟩ : ByteArray).data.toList ++ (head ++ (⟨#[10]⟩ : ByteArray)).data.toList) := hid (by
      rw [HA.out]; unfold hhB; rw [if_neg h0]; simp)
    have f0 : (0 : Int) < (l.length : Int) := by omega
    go_enter Tryz.func55, Tryz.ntmps55
    go_wp2_with fail
    go_at_call 80
    refine CL.out.mono ?_
    rintro e w1 ⟨rfl, hw1⟩
    obtain rfl := hw1.symm
    clear CL
    go_wp2_with fail
    go_at_call 31
    refine (CW.out _ l _ (by show 1 ≤ _; omega) HP.out (by omega)).mono ?_
    rintro e w2 ⟨rfl, hp2, hk2⟩
    have HP2 := hid hp2
    have HK2 := hid hk2
    clear hp2 hk2
    go_wp2_with fail
    go_at_call 31
    refine (CW.out _ _ _ HN.out HP2.out (by rw [List.length_append]; show _ + 1 ≤ _; omega)).mono ?_
    rintro e w4 ⟨rfl, hp4, hk4⟩
    rw [← hE.out] at hp4
    have C1 := hid (HCT.out w4 (HK2.out.trans hk4) hp4)
    have HK4 := hid (HK2.out.trans hk4)
    clear hp4 hk4
    go_wp2_with fail
    go_at_call 16
    refine C1.out.mono ?_
    rintro e w3 ⟨rfl, hp3, hk3⟩
    go_wp2_with fail
    first | go_end0 | refine bodyPost_ret (results_none rfl _ _ _) rfl ?_
    exact ⟨rfl, hp3, HK4.out.trans hk3⟩
end Go.Proofs.YtiaepihdfbahaaaGreatDoor
namespace Go.Proofs.YtiaepihdfbahaaaGreatDoor
open Go.RowKit

def TbOk (N : Nat) : Prop := ∀ (V : List VT) (K : List ByteArray) (o : Option Addr) (n c : Nat) (p : ByteArray) (b : Nat) (l : List UInt8) (u w : World), szL V ≤ N → InM u K V (.slice o n c) → Below u.heap.size u w → u.heap.size ≤ b → GlobW u → plainL V = true → wnL V → (∀ c ∈ K, c.size ≤ 4096) → Tr w b l → szL V ≤ 4096 → p.size + 24600 * (hgL V + 1) ≤ 900000 → (bdM V K (plM V K l) p.data.toList).length ≤ 10000000000 →
    Calls Tryz.prog 16 #[.pointer (some ⟨b, 0, none⟩), .slice o n c, .string p] w (Wt b (bdM V K (plM V K l) p.data.toList) w)
def HdOk (N : Nat) : Prop := ∀ (T : VT) (o1 o2 : Option Addr) (n1 c1 n2 c2 : Nat) (q : ByteArray) (b : Nat) (l : List UInt8) (u w : World), szT T ≤ N → HV u T (.slice o1 n1 c1) (.slice o2 n2 c2) → Below u.heap.size u w → u.heap.size ≤ b → GlobW u → plainT T = true → wnT T → plnD T = false → Tr w b l → szT T ≤ 4096 → q.size + 24600 * hgT T ≤ 900000 → (bdX T l q.data.toList).length ≤ 10000000000 →
    Calls Tryz.prog 32 #[.pointer (some ⟨b, 0, none⟩), vv T (.slice o1 n1 c1) (.slice o2 n2 c2), .string q] w (Wt b (bdX T l q.data.toList) w)
theorem hv_inM {u : World} {k n : Int} {s : ByteArray} {L V : List VT} {K : List ByteArray} {x y : Value} (h : HV u (.mk k n s L K V) x y) : InM u K V y := by
  cases h with
  | mk a b f g p q hk hn hs hL hM hK cL cK cM rL rM => exact ⟨b, p, q, hM, hK, cK, cM, rM⟩
theorem hd1_is (q : ByteArray) : ((⟨#[91]⟩ : ByteArray) ++ q ++ (⟨#[93]⟩ : ByteArray)).data.toList = hd1 q.data.toList := by unfold hd1; simp
theorem hd2_is (q : ByteArray) : ((⟨#[91, 91]⟩ : ByteArray) ++ q ++ (⟨#[93, 93]⟩ : ByteArray)).data.toList = hd2 q.data.toList := by unfold hd2; simp
theorem bdL_take (L : List VT) (s q : List UInt8) (j : Nat) : (bdL (L.take j) s q).length ≤ (bdL L s q).length := by
  have e : bdL L s q = bdL (L.drop j) (bdL (L.take j) s q) q := by rw [← bdL_app, List.take_append_drop]
  rw [e]; exact bdL_ge _ _ _
set_option maxRecDepth 100000 in
set_option maxHeartbeats 4000000 in
theorem theaded_map (N : Nat) (ih : TbOk N) (n : Int) (s : ByteArray) (L V : List VT) (K : List ByteArray) (o1 o2 : Option Addr) (n1 c1 n2 c2 : Nat) (q : ByteArray) (b : Nat) (l : List UInt8) (u w : World) (hN : szT (.mk 6 n s L K V) ≤ N + 1) (hT : HV u (.mk 6 n s L K V) (.slice o1 n1 c1) (.slice o2 n2 c2)) (hu : Below u.heap.size u w) (hub : u.heap.size ≤ b) (hg : GlobW u) (hp : plainT (.mk 6 n s L K V) = true) (hw : wnT (.mk 6 n s L K V)) (h : Tr w b l) (hz : szT (.mk 6 n s L K V) ≤ 4096) (hq : q.size + 24600 * hgT (.mk 6 n s L K V) ≤ 900000) (hlen : (bdX (.mk 6 n s L K V) l q.data.toList).length ≤ 10000000000) :
    Calls Tryz.prog 32 #[.pointer (some ⟨b, 0, none⟩), .agg #[.int .i64 6, .int .i64 n, .string s, .slice o1 n1 c1, .slice o2 n2 c2], .string q] w (Wt b (bdX (.mk 6 n s L K V) l q.data.toList) w) := by
  have hlt := h.lt
  have hE : bdX (.mk 6 n s L K V) l q.data.toList = bdM V K (plM V K (hhB l (hd1 q.data.toList))) q.data.toList := by rw [bdX, if_pos rfl]
  rw [hE] at hlen ⊢
  have hlb : l.length ≤ 10000000000 := by
    have h1 := bdM_ge V K (plM V K (hhB l (hd1 q.data.toList))) q.data.toList
    have h2 := plM_ge V K (hhB l (hd1 q.data.toList))
    have h3 := hh_ge l (hd1 q.data.toList)
    omega
  rw [plainT, Bool.and_eq_true, Bool.and_eq_true] at hp
  obtain ⟨⟨hnode, hpL⟩, hpV⟩ := hp
  rw [wnT] at hw
  obtain ⟨hn, hK, hwL, hwV⟩ := hw
  have hsz : szT (.mk 6 n s L K V) = 1 + szL L + szL V := by rw [szT]
  have hhg : hgT (.mk 6 n s L K V) = 1 + max (hgL L) (hgL V) := by rw [hgT]
  rw [hsz] at hN hz
  rw [hhg] at hq
  obtain ⟨W0, hW0⟩ : ∃ W0, w.alloc (.cells #[.int .i64 6, .int .i64 n, .string s, .slice o1 n1 c1, .slice o2 n2 c2] 27) = W0 := ⟨_, rfl⟩
  have hb0 : Below w.heap.size w W0 := by rw [← hW0]; exact valloc_bel (Below.refl _ _) _
  have hbk : W0.heap[w.heap.size]? = some (.cells #[.int .i64 6, .int .i64 n, .string s, .slice o1 n1 c1, .slice o2 n2 c2] 27) := by rw [← hW0]; exact heap_alloc_new w _
  have g0 : W0.cell? ⟨w.heap.size, 0, none⟩ = some (.int .i64 6) := (tcell_heap hbk 0).trans rfl
  have g4 : W0.cell? ⟨w.heap.size, 4, none⟩ = some (.slice o2 n2 c2) := (tcell_heap hbk 4).trans rfl
  have HP := hid (h.on hb0)
  have HK0 := hid (Kt.of (b := b) hb0 (Nat.le_of_lt hlt))
  have HQ := hid (hd1_is q)
  have CH := hid (theader_of b l (bdM V K (plM V K (hhB l (hd1 q.data.toList))) q.data.toList) ((⟨#[91]⟩ : ByteArray) ++ q ++ (⟨#[93]⟩ : ByteArray)) q o2 n2 c2 W0 (h.on hb0) (by omega) (by rw [ByteArray.size_append, ByteArray.size_append]; show 1 + q.size + 1 ≤ _; omega) (fun X hX hPX => by
    rw [hd1_is] at hPX
    exact ih V K o2 n2 c2 q b _ u X (by omega) (hv_inM hT) (hu.trans ((hb0.mono (by have := hu.size; omega)).trans (hX.1.mono hub))) hub hg hpV hwV (keys_le hnode hK) hPX (by omega) (by omega) hlen))
  generalize bdM V K (plM V K (hhB l (hd1 q.data.toList))) q.data.toList = R at CH ⊢
  have hqs : q.size ≤ 900000 := by omega
  clear hbk hb0 hE hlen ih hT hu hg hnode hpL hpV hwL hwV hK hN hz hq hsz hhg h
  go_enter Tryz.func32, Tryz.ntmps32
  go_upto_region 1 with fail
  clear hW0
  go_wp2_with fail
  go_at_call 55
  refine CH.out.mono ?_
  rintro e w1 ⟨rfl, hp1, hk1⟩
  go_wp2_with fail
  first | go_end0 | refine bodyPost_ret (results_none rfl _ _ _) rfl ?_
  exact ⟨rfl, hp1, HK0.out.trans hk1⟩
end Go.Proofs.YtiaepihdfbahaaaGreatDoor
namespace Go.Proofs.YtiaepihdfbahaaaGreatDoor
open Go.RowKit

theorem dtb_parts {k n : Int} {s : ByteArray} {L V : List VT} {K : List ByteArray} (h : dtbB (.mk k n s L K V) = true) : k = 5 ∧ (∀ (i : Nat) (t : VT), L[i]? = some t → t.kd = 6) := by
  unfold dtbB at h
  rw [Bool.and_eq_true] at h
  obtain ⟨h1, h2⟩ := h
  unfold tblB mpsL at h2
  rw [Bool.and_eq_true] at h2
  exact ⟨of_decide_eq_true h1, fun i t ht => of_decide_eq_true (List.all_eq_true.1 h2.1 t (List.mem_of_getElem? ht))⟩
set_option maxRecDepth 100000 in
set_option maxHeartbeats 4000000 in
theorem theaded_list (N : Nat) (ih : TbOk N) (n : Int) (s : ByteArray) (L V : List VT) (K : List ByteArray) (o1 o2 : Option Addr) (n1 c1 n2 c2 : Nat) (q : ByteArray) (b : Nat) (l : List UInt8) (u w : World) (hN : szT (.mk 5 n s L K V) ≤ N + 1) (hT : HV u (.mk 5 n s L K V) (.slice o1 n1 c1) (.slice o2 n2 c2)) (hu : Below u.heap.size u w) (hub : u.heap.size ≤ b) (hg : GlobW u) (hp : plainT (.mk 5 n s L K V) = true) (hw : wnT (.mk 5 n s L K V)) (hd : dtbB (.mk 5 n s L K V) = true) (h : Tr w b l) (hz : szT (.mk 5 n s L K V) ≤ 4096) (hq : q.size + 24600 * hgT (.mk 5 n s L K V) ≤ 900000) (hlen : (bdX (.mk 5 n s L K V) l q.data.toList).length ≤ 10000000000) :
    Calls Tryz.prog 32 #[.pointer (some ⟨b, 0, none⟩), .agg #[.int .i64 5, .int .i64 n, .string s, .slice o1 n1 c1, .slice o2 n2 c2], .string q] w (Wt b (bdX (.mk 5 n s L K V) l q.data.toList) w) := by
  have hlt := h.lt
  have hE : bdX (.mk 5 n s L K V) l q.data.toList = bdL L l q.data.toList := by rw [bdX, if_neg (by decide), if_pos hd]
  rw [hE] at hlen ⊢
  have HLB := hid (fun j => Nat.le_trans (bdL_take L l q.data.toList j) hlen)
  have hk6 := (dtb_parts hd).2
  rw [plainT, Bool.and_eq_true, Bool.and_eq_true] at hp
  obtain ⟨⟨hnode, hpL⟩, hpV⟩ := hp
  rw [wnT] at hw
  obtain ⟨hn, hK, hwL, hwV⟩ := hw
  have hsz : szT (.mk 5 n s L K V) = 1 + szL L + szL V := by rw [szT]
  have hhg : hgT (.mk 5 n s L K V) = 1 + max (hgL L) (hgL V) := by rw [hgT]
  rw [hsz] at hN hz
  rw [hhg] at hq
  cases hT with
  | mk a b' f g p q' hk' hn' hs hL hM hK' cL cK cM rL rM =>
  obtain ⟨oL, capL, hsl, hL1, hL2, hL3⟩ := hL
  injection hsl with e1 e2 e3
  subst e1 e2 e3
  unfold maxLen at hL2
  obtain ⟨W0, hW0⟩ : ∃ W0, w.alloc (.cells #[.int .i64 5, .int .i64 n, .string s, .slice o1 L.length c1, .slice o2 n2 c2] 27) = W0 := ⟨_, rfl⟩
  have hb0 : Below w.heap.size w W0 := by rw [← hW0]; exact valloc_bel (Below.refl _ _) _
  have hbk : W0.heap[w.heap.size]? = some (.cells #[.int .i64 5, .int .i64 n, .string s, .slice o1 L.length c1, .slice o2 n2 c2] 27) := by rw [← hW0]; exact heap_alloc_new w _
  have g0 : W0.cell? ⟨w.heap.size, 0, none⟩ = some (.int .i64 5) := (tcell_heap hbk 0).trans rfl
  have g3 : W0.cell? ⟨w.heap.size, 3, none⟩ = some (.slice o1 L.length c1) := (tcell_heap hbk 3).trans rfl
  have HP := hid (h.on hb0)
  have HK0 := hid (Kt.of (b := b) hb0 (Nat.le_of_lt hlt))
  have hu0 : Below u.heap.size u W0 := hu.trans (hb0.mono (by have := hu.size; omega))
  -- a part's header
  have CH : Hid (∀ (j : Nat) (t : VT), L[j]? = some t → ∃ o3 n3 c3 o n' c, Node u (a.add (j * 5)) t (.slice o3 n3 c3) (.slice o n' c) ∧ ∀ X, Kt b W0 X → Tr X b (bdL (L.take j) l q.data.toList) → Calls Tryz.prog 55 #[.pointer (some ⟨b, 0, none⟩), .string ((⟨#[91, 91]⟩ : ByteArray) ++ q ++ (⟨#[93, 93]⟩ : ByteArray)), .slice o n' c, .string q] X (Wt b (bdL (L.take (j + 1)) l q.data.toList) X)) := hid (fun j t ht => by
    obtain ⟨p1, p2, p3, p4, p5, p6, hf, hg2⟩ := hv_slices (rL j t ht)
    have hnd := cL j t ht
    have hr := rL j t ht
    rw [hf, hg2] at hnd hr
    refine ⟨p1, p2, p3, p4, p5, p6, hnd, fun X hX hPX => ?_⟩
    have hpt := (plainL_get L).1 hpL j t ht
    have hst := szL_get L j t ht
    have hht := (hgL_get L _).1 (Nat.le_refl _) j t ht
    have hwt := hr.wn
    cases t with
    | mk k2 n3 s2 L2 K2 V2 =>
    rw [plainT, Bool.and_eq_true, Bool.and_eq_true] at hpt
    obtain ⟨⟨hnode2, hpL2⟩, hpV2⟩ := hpt
    rw [wnT] at hwt
    obtain ⟨hn2, hK2, hwL2, hwV2⟩ := hwt
    have hsz2 : szT (.mk k2 n3 s2 L2 K2 V2) = 1 + szL L2 + szL V2 := by rw [szT]
    have hhg2 : hgT (.mk k2 n3 s2 L2 K2 V2) = 1 + max (hgL L2) (hgL V2) := by rw [hgT]
    rw [hsz2] at hst
    rw [hhg2] at hht
    have hNX := bl_next l q.data.toList ht
    have hlj := HLB.out (j + 1)
    rw [hNX] at hlj ⊢
    rw [bdT] at hlj ⊢
    have hlj0 := HLB.out j
    exact theader_of b _ _ ((⟨#[91, 91]⟩ : ByteArray) ++ q ++ (⟨#[93, 93]⟩ : ByteArray)) q p4 p5 p6 X hPX (by omega) (by rw [ByteArray.size_append, ByteArray.size_append]; show 2 + q.size + 2 ≤ _; omega) (fun Y hY hPY => by
      rw [hd2_is] at hPY
      exact ih V2 K2 p4 p5 p6 q b _ u Y (by omega) (hv_inM hr) (hu0.trans ((hX.trans hY).1.mono hub)) hub hg hpV2 hwV2 (keys_le hnode2 hK2) hPY (by omega) (by omega) hlj))
  have HU := hid (fun X (hX : Kt b W0 X) => hu0.trans (hX.1.mono hub))
  have hqs : q.size ≤ 900000 := by omega
  obtain ⟨R, hR⟩ : ∃ R, bdL L l q.data.toList = R := ⟨_, rfl⟩
  rw [hR]
  have HR := hid hR
  have H0 : Hid (bdL (L.take 0) l q.data.toList = l) := hid (by rw [List.take_zero, bdL])
  have HAD : Hid (0 < L.length → o1 = some a) := hid hL3
  have HK6 := hid hk6
  clear hbk hb0 hE hlen ih hu hu0 hg hnode hpL hpV hwL hwV hK hN hz hq hsz hhg h hR hd hk6 cL cK cM rL rM hM HLB hL3
  go_enter Tryz.func32, Tryz.ntmps32
  go_upto_region 1 with fail
  clear hW0
  go_wp2_with fail
  go_loopw [22] (fun i wr => ∃ j : Nat, j ≤ L.length ∧ i = .int .i64 j ∧ Hid (Tr wr b (bdL (L.take j) l q.data.toList)) ∧ Hid (Kt b W0 wr)) (fun i _ => L.length - (intOf i).toNat)
  case atStart => exact ⟨0, Nat.zero_le _, rfl, (show Tr _ _ _ by rw [H0.out]; exact HP.out), Kt.refl _ _⟩
  case round =>
    obtain ⟨j, hj, rfl, HPJ, HKJ⟩ := hrel
    by_cases hlt2 : j < L.length
    · obtain rfl := HAD.out (by omega)
      obtain ⟨t, ht⟩ : ∃ t, L[j]? = some t := ⟨L[j], List.getElem?_eq_getElem hlt2⟩
      obtain ⟨o3, n3, c3, o, n', c, hnd, CHJ⟩ := CH.out j t ht
      have hnd := hnd.onto (HU.out wr HKJ.out)
      simp only [Node] at hnd
      obtain ⟨d0, d1, d2, d3, d4⟩ := hnd
      rw [HK6.out j t ht] at d0
      have CHJ := hid CHJ
      go_upto_region 6 with fail
      refine tpwp_gen ?_
      intro W hW
      obtain ⟨v0, v1, v2, v3, v4⟩ := tpbox wr (.int .i64 6) (.int .i64 t.nm) (.string t.st) (.slice o3 n3 c3) (.slice o n' c)
      have hbW : Below wr.heap.size wr W := by rw [hW]; exact valloc_bel (Below.refl _ _) _
      rw [← hW] at v0 v1 v2 v3 v4
      have HKW := hid (HKJ.out.trans (Kt.of (b := b) hbW (Nat.le_of_lt HPJ.out.lt)))
      have CW := hid (CHJ.out W HKW.out (HPJ.out.on hbW))
      clear hW hbW d0 d1 d2 d3 d4 g0 g3 v0 v1 v2 v3 CHJ
      go_wp2_with fail
      go_at_call 55
      refine CW.out.mono ?_
      rintro e w1 ⟨rfl, hp1, hk1⟩
      have HP1 := hid hp1
      have HK1 := hid (HKW.out.trans hk1)
      clear hp1 hk1 CW
      go_wp2_with fail
      go_roundw
      case rel => exact ⟨j + 1, hlt2, val_int (by omega), HP1.out, HK1.out⟩
      case measure => simp [intOf]; omega
    · obtain rfl : j = L.length := by omega
      go_wp2_with fail
      first | go_end0 | refine bodyPost_ret (results_none rfl _ _ _) rfl ?_
      refine ⟨rfl, ?_, HK0.out.trans HKJ.out⟩
      have := HPJ.out
      rw [List.take_length, HR.out] at this
      exact this
theorem theaded_any (N : Nat) (ih : TbOk N) : HdOk (N + 1) := by
  intro T o1 o2 n1 c1 n2 c2 q b l u w hN hT hu hub hg hp hw hpl h hz hq hlen
  cases T with
  | mk k n s L K V =>
  by_cases h6 : k = 6
  · subst h6
    exact theaded_map N ih n s L V K o1 o2 n1 c1 n2 c2 q b l u w hN hT hu hub hg hp hw h hz hq hlen
  · have hd : dtbB (.mk k n s L K V) = true := by
      have hk : (decide ((VT.mk k n s L K V).kd = 6)) = false := decide_eq_false h6
      unfold plnD at hpl
      rw [hk] at hpl
      simpa using hpl
    have h5 := (dtb_parts hd).1
    subst h5
    exact theaded_list N ih n s L V K o1 o2 n1 c1 n2 c2 q b l u w hN hT hu hub hg hp hw hd h hz hq hlen
end Go.Proofs.YtiaepihdfbahaaaGreatDoor
namespace Go.Proofs.YtiaepihdfbahaaaGreatDoor
open Go.RowKit

theorem plh_is {t : VT} (h : plainT t = true) : plhB t = plnD t := by
  cases t with
  | mk k n s L K V =>
  rw [plainT, Bool.and_eq_true, Bool.and_eq_true] at h
  have hl := (node_len h.1.1).1
  have hd : (decide ((VT.mk k n s L K V).kd = 5) && tblB (.mk k n s L K V)) = tblB (.mk k n s L K V) := by
    by_cases h5 : k = 5
    · rw [show decide ((VT.mk k n s L K V).kd = 5) = true from decide_eq_true h5, Bool.true_and]
    · have hL := hl.resolve_left h5
      subst hL
      have : tblB (.mk k n s [] K V) = false := by unfold tblB; simp [VT.ls]
      rw [this, Bool.and_false]
  unfold plhB plnD dtbB
  rw [hd]
theorem plM_take (V : List VT) (K : List ByteArray) (hK : K.length = V.length) (s : List UInt8) (j : Nat) : (plM (V.take j) (K.take j) s).length ≤ (plM V K s).length := by
  have e : plM V K s = plM (V.drop j) (K.drop j) (plM (V.take j) (K.take j) s) := by
    rw [← plM_app _ _ _ _ _ (by rw [List.length_take, List.length_take, hK]), List.take_append_drop, List.take_append_drop]
  rw [e]; exact plM_ge _ _ _
theorem bdM_take (V : List VT) (K : List ByteArray) (hK : K.length = V.length) (s p : List UInt8) (j : Nat) : (bdM (V.take j) (K.take j) s p).length ≤ (bdM V K s p).length := by
  have e : bdM V K s p = bdM (V.drop j) (K.drop j) (bdM (V.take j) (K.take j) s p) p := by
    rw [← bdM_app _ _ _ _ _ _ (by rw [List.length_take, List.length_take, hK]), List.take_append_drop, List.take_append_drop]
  rw [e]; exact bdM_ge _ _ _ _
/-- what is written at a pair, below headers or in a line -/
theorem bdX_pl {t : VT} (h : plnD t = true) (s q : List UInt8) : bdX t s q = s := by
  cases t with
  | mk k n u L K V =>
  unfold plnD at h
  rw [Bool.and_eq_true, Bool.not_eq_true', Bool.not_eq_true'] at h
  have h1 : ¬ k = 6 := of_decide_eq_false h.1
  rw [bdX, if_neg h1, if_neg (by rw [h.2]; decide)]
theorem wnL_at : ∀ (L : List VT) (i : Nat) (t : VT), wnL L → L[i]? = some t → wnT t
  | [], i, t, _, h => by simp at h
  | a :: r, 0, t, hw, h => by rw [wnL] at hw; simp at h; subst h; exact hw.1
  | a :: r, i + 1, t, hw, h => by rw [wnL] at hw; exact wnL_at r i t hw.2 (by simpa using h)
set_option maxRecDepth 100000 in
set_option maxHeartbeats 8000000 in
theorem ttable_of (N : Nat) (ihX : HdOk N) : TbOk N := by
  intro V K o n c p b l u w hN hI hu hub hg hpV hwV hks h hz hq hlen
  have hlt := h.lt
  obtain ⟨b', fp, fq, hM, hK, cK, cM, rM⟩ := hI
  obtain ⟨oM, capM, hsl, hM1, hM2, hM3⟩ := hM
  injection hsl with e1 e2 e3
  subst e1 e2 e3
  unfold maxLen at hM2
  have HP0 := hid h
  have HU := hid (fun X (hX : Kt b w X) => hu.trans (hX.1.mono hub))
  obtain ⟨P, hP⟩ : ∃ P, plM V K l = P := ⟨_, rfl⟩
  have hPl : P.length ≤ 10000000000 := by rw [← hP]; have := bdM_ge V K (plM V K l) p.data.toList; omega
  have HPL : Hid (∀ j, (plM (V.take j) (K.take j) l).length ≤ 10000000000) := hid (fun j => by have := plM_take V K hK l j; rw [hP] at this; omega)
  rw [hP] at hlen ⊢
  have HBL : Hid (∀ j, (bdM (V.take j) (K.take j) P p.data.toList).length ≤ 10000000000) := hid (fun j => Nat.le_trans (bdM_take V K hK P p.data.toList j) hlen)
  have HEP : Hid (plM (V.take V.length) (K.take V.length) l = P) := hid (by rw [List.take_length, ← hK, List.take_length]; exact hP)
  obtain ⟨R, hR⟩ : ∃ R, bdM V K P p.data.toList = R := ⟨_, rfl⟩
  have HER : Hid (bdM (V.take V.length) (K.take V.length) P p.data.toList = R) := hid (by rw [List.take_length, ← hK, List.take_length]; exact hR)
  rw [hR]
  have hps : p.size ≤ 900000 := by omega
  have hsq : ∀ x : ByteArray, x.size = x.data.toList.length := fun x => by simp
  -- a pair's facts
  have HT : Hid (∀ (j : Nat) (t : VT) (c : ByteArray), V[j]? = some t → K[j]? = some c → ∃ o1 n1 c1 o2 n2 c2, (∀ X, Kt b w X → X.cell? (b'.add (j * 6)) = some (.string c) ∧ Node X (nx (b'.add (j * 6))) t (.slice o1 n1 c1) (.slice o2 n2 c2) ∧ HV X t (.slice o1 n1 c1) (.slice o2 n2 c2)) ∧ c.size ≤ 4096 ∧
      (∀ (l' : List UInt8) (X : World), Kt b w X → Tr X b l' → l'.length ≤ 10000000000 → Calls Tryz.prog 30 #[.pointer (some ⟨b, 0, none⟩), .agg #[.string c, .int .i64 t.kd, .int .i64 t.nm, .string t.st, .slice o1 n1 c1, .slice o2 n2 c2]] X (Wt b (l' ++ (pkB c.data.toList ++ [32, 61, 32]) ++ ivT t) X)) ∧
      (plnD t = false → (bdX t (bdM (V.take j) (K.take j) P p.data.toList) (jpB p.data.toList c.data.toList)).length ≤ 10000000000 → ∀ (X : World) (jq : ByteArray), jq = mkS (jpB p.data.toList c.data.toList) → Kt b w X → Tr X b (bdM (V.take j) (K.take j) P p.data.toList) → Calls Tryz.prog 32 #[.pointer (some ⟨b, 0, none⟩), .agg #[.int .i64 t.kd, .int .i64 t.nm, .string t.st, .slice o1 n1 c1, .slice o2 n2 c2], .string jq] X (Wt b (bdX t (bdM (V.take j) (K.take j) P p.data.toList) (jpB p.data.toList c.data.toList)) X))) := hid (fun j t c ht hc => by
    obtain ⟨o1, n1, c1, o2, n2, c2, hf, hg2⟩ := hv_slices (rM j t ht)
    have hr := rM j t ht
    have hnd := cM j t ht
    rw [hf, hg2] at hr hnd
    have hcs := hks c (List.mem_of_getElem? hc)
    have hpt := (plainL_get V).1 hpV j t ht
    have hst := szL_get V j t ht
    have hht := (hgL_get V _).1 (Nat.le_refl _) j t ht
    have hwt := wnL_at V j t hwV ht
    have hil := ivT_len t hpt hwt
    have hjl := jp_le (p := p.data.toList) hcs
    have hpz := hsq p
    refine ⟨o1, n1, c1, o2, n2, c2, fun X hX => ⟨keepCell (HU.out X hX) (cK j c hc).1, hnd.onto (HU.out X hX), hr.onto (HU.out X hX)⟩, hcs, fun l' X hX hPX hl' => ?_, fun hpn hbl X jq hjq hX hPX => ?_⟩
    · have hpk := pk_le hcs
      exact tpair_any b l' (ivT t) c t o1 o2 n1 c1 n2 c2 X hcs (by omega) hPX (fun Z hZ hPZ => tvalue_any (szT t) t _ _ b _ u Z (Nat.le_refl _) hr (HU.out Z (hX.trans hZ)) hub hg hpt hPZ (by omega) (by omega) (by rw [List.length_append, List.length_append]; show _ + (_ + 3) + _ ≤ _; omega))
    · have hq1 : (mkS (jpB p.data.toList c.data.toList)).size ≤ p.size + 24600 := by rw [mkS_size]; omega
      subst hjq
      have := ihX t o1 o2 n1 c1 n2 c2 (mkS (jpB p.data.toList c.data.toList)) b _ u X (by omega) hr (HU.out X hX) hub hg hpt hwt hpn hPX (by omega) (by omega) (by rw [mkS_list]; exact hbl)
      rw [mkS_list] at this
      exact this)
  have CPL := hid (fun (t : VT) (x y : Value) X (h : HV X t x y) => tpplain_any t x y X h)
  have CJ := hid (fun (c : ByteArray) X (h : c.size ≤ 4096) => tpjoin_any p c X (by omega) (by omega) (by have := pk_le h; omega))
  have CWN := hid (fun (l' : List UInt8) X (hX : Tr X b l') (hl' : l'.length ≤ 1000000000000) => twrite_any b l' (⟨#[10]⟩ : ByteArray) X hX (by show _ + 1 ≤ _; omega))
  have HPT : Hid (∀ (j : Nat) (t : VT), V[j]? = some t → plainT t = true) := hid (fun j t ht => (plainL_get V).1 hpV j t ht)
  have HPN := hid (fun j (t : VT) (c : ByteArray) ht hc => pl_next (j := j) (t := t) (c := c) (V := V) (K := K) l ht hc)
  have HBN := hid (fun j (t : VT) (c : ByteArray) ht hc => bd_next (j := j) (t := t) (c := c) (V := V) (K := K) P p.data.toList ht hc)
  have HKL := hid hK
  have HAD : Hid (0 < V.length → o = some b') := hid hM3
  have H0 : Hid (plM (V.take 0) (K.take 0) l = l) := hid (by rw [List.take_zero, plM])
  have H1 : Hid (bdM (V.take 0) (K.take 0) P p.data.toList = P) := hid (by rw [List.take_zero, bdM])
  clear ihX hu hub hg hpV hwV hks h hz hq hlen hP hR hM3 cK cM rM hN hK hsq HU hPl
  go_enter Tryz.func16, Tryz.ntmps16
  go_wp2_with fail
  go_loopw [12] (fun i wr => ∃ j : Nat, j ≤ V.length ∧ i = .int .i64 j ∧ Hid (Tr wr b (plM (V.take j) (K.take j) l)) ∧ Hid (Kt b w wr)) (fun i _ => V.length - (intOf i).toNat)
  case atStart => exact ⟨0, Nat.zero_le _, rfl, (show Tr _ _ _ by rw [H0.out]; exact HP0.out), Kt.refl _ _⟩
  case round =>
    obtain ⟨j, hj, rfl, HPJ, HKJ⟩ := hrel
    by_cases hlt2 : j < V.length
    · obtain rfl := HAD.out (by omega)
      obtain ⟨t, ht⟩ : ∃ t, V[j]? = some t := ⟨V[j], List.getElem?_eq_getElem hlt2⟩
      obtain ⟨cc, hc⟩ : ∃ c, K[j]? = some c := ⟨K[j]'(by rw [HKL.out]; exact hlt2), List.getElem?_eq_getElem (by rw [HKL.out]; exact hlt2)⟩
      obtain ⟨o1, n1, c1, o2, n2, c2, hfa, hcs, hpair, -⟩ := HT.out j t cc ht hc
      have HNX := hid (HPN.out j t cc ht hc)
      have HLJ := hid (HPL.out j)
      have HPI := hid (plh_is (HPT.out j t ht))
      obtain ⟨dk, hnd, hv⟩ := hfa wr HKJ.out
      simp only [Node, nx] at hnd
      obtain ⟨d0, d1, d2, d3, d4⟩ := hnd
      have HV0 := hid hv
      have HPA := hid hpair
      clear ht hc hfa hpair hv
      go_upto_region 3 with fail
      refine tpwp_gen ?_
      intro W hW
      obtain ⟨vk, v0, v1, v2, v3, v4⟩ := tpbox6 wr (.string cc) (.int .i64 t.kd) (.int .i64 t.nm) (.string t.st) (.slice o1 n1 c1) (.slice o2 n2 c2)
      have hbW : Below wr.heap.size wr W := by rw [hW]; exact valloc_bel (Below.refl _ _) _
      rw [← hW] at vk v0 v1 v2 v3 v4
      have HKW := hid (HKJ.out.trans (Kt.of (b := b) hbW (Nat.le_of_lt HPJ.out.lt)))
      have HPW := hid (HPJ.out.on hbW)
      have C1 := hid (CPL.out t _ _ W (HV0.out.onto hbW))
      rw [HPI.out] at C1
      simp only [vv] at C1
      clear hW hbW dk d0 d1 d2 d3 d4 HV0 HPI
      cases hpl : plnD t with
      | true =>
        rw [hpl] at C1
        have HE : Hid (plM (V.take (j + 1)) (K.take (j + 1)) l = plM (V.take j) (K.take j) l ++ (pkB cc.data.toList ++ [32, 61, 32]) ++ ivT t ++ (⟨#[10]⟩ : ByteArray).data.toList) := hid (by
          rw [HNX.out, plpB, if_pos hpl]; simp)
        have HL1 := hid (HPL.out (j + 1))
        rw [HE.out] at HL1
        clear hpl
        go_wp2_with fail
        go_at_call 29
        refine C1.out.mono ?_
        rintro e w1 ⟨rfl, hb1⟩
        have vk := keepCell hb1 vk
        have v0 := keepCell hb1 v0
        have v1 := keepCell hb1 v1
        have v2 := keepCell hb1 v2
        have v3 := keepCell hb1 v3
        have v4 := keepCell hb1 v4
        have HK1 := hid (HKW.out.trans (Kt.of (b := b) hb1 (Nat.le_of_lt HPW.out.lt)))
        have HP1 := hid (HPW.out.on hb1)
        have C2 := hid (HPA.out _ w1 HK1.out HP1.out HLJ.out)
        clear hb1 C1 HKW HPW HPA
        go_wp2_with fail
        go_at_call 30
        refine C2.out.mono ?_
        rintro e w2 ⟨rfl, hp2, hk2⟩
        have HP2 := hid hp2
        have HK2 := hid (HK1.out.trans hk2)
        clear hp2 hk2 C2 vk v0 v1 v2 v3 v4
        go_wp2_with fail
        go_at_call 31
        refine (CWN.out _ _ HP2.out (by have := HL1.out; simp only [List.length_append] at this ⊢; omega)).mono ?_
        rintro e w3 ⟨rfl, hp3, hk3⟩
        have HP3 := hid hp3
        have HK3 := hid (HK2.out.trans hk3)
        clear hp3 hk3
        go_wp2_with fail
        go_roundw
        case rel => exact ⟨j + 1, hlt2, val_int (by omega), (show Tr _ _ _ by rw [HE.out]; exact HP3.out), HK3.out⟩
        case measure => simp [intOf]; omega
      | false =>
        rw [hpl] at C1
        have HE : Hid (plM (V.take (j + 1)) (K.take (j + 1)) l = plM (V.take j) (K.take j) l) := hid (by
          rw [HNX.out, plpB, hpl, if_neg (by decide)])
        clear hpl HPA
        go_wp2_with fail
        go_at_call 29
        refine C1.out.mono ?_
        rintro e w1 ⟨rfl, hb1⟩
        have HK1 := hid (HKW.out.trans (Kt.of (b := b) hb1 (Nat.le_of_lt HPW.out.lt)))
        have HP1 := hid (HPW.out.on hb1)
        clear hb1 C1 HKW HPW vk v0 v1 v2 v3 v4
        go_wp2_with fail
        go_roundw
        case rel => exact ⟨j + 1, hlt2, val_int (by omega), (show Tr _ _ _ by rw [HE.out]; exact HP1.out), HK1.out⟩
        case measure => simp [intOf]; omega
    · obtain rfl : j = V.length := by omega
      have HPV : Hid (Tr wr b P) := hid (by rw [← HEP.out]; exact HPJ.out)
      have HKV := hid HKJ.out
      rename_i wr0
      clear HPJ HKJ HP0 HPL HPN H0
      go_wp2_with fail
      go_loopw [29] (fun i wx => ∃ j : Nat, j ≤ V.length ∧ i = .int .i64 j ∧ Hid (Tr wx b (bdM (V.take j) (K.take j) P p.data.toList)) ∧ Hid (Kt b w wx)) (fun i _ => V.length - (intOf i).toNat)
      case atStart => exact ⟨0, Nat.zero_le _, rfl, (show Tr _ _ _ by rw [H1.out]; exact HPV.out), HKV.out⟩
      case round =>
        obtain ⟨i, hi, rfl, HPI2, HKI⟩ := hrel
        by_cases hlt3 : i < V.length
        · obtain rfl := HAD.out (by omega)
          obtain ⟨t, ht⟩ : ∃ t, V[i]? = some t := ⟨V[i], List.getElem?_eq_getElem hlt3⟩
          obtain ⟨cc, hc⟩ : ∃ c, K[i]? = some c := ⟨K[i]'(by rw [HKL.out]; exact hlt3), List.getElem?_eq_getElem (by rw [HKL.out]; exact hlt3)⟩
          obtain ⟨o1, n1, c1, o2, n2, c2, hfa, hcs, -, hhead⟩ := HT.out i t cc ht hc
          have HNX := hid (HBN.out i t cc ht hc)
          have HLX := HBL.out (i + 1)
          rw [HNX.out] at HLX
          have HLX := hid HLX
          have HPI := hid (plh_is (HPT.out i t ht))
          obtain ⟨dk, hnd, hv⟩ := hfa _ HKI.out
          simp only [Node, nx] at hnd
          obtain ⟨d0, d1, d2, d3, d4⟩ := hnd
          have HV0 := hid hv
          have HHD := hid hhead
          clear ht hc hfa hhead hv
          go_upto_region 10 with fail
          refine tpwp_gen ?_
          intro W hW
          have hbkW : W.heap[wr.heap.size]? = some (.cells #[.string cc, .int .i64 t.kd, .int .i64 t.nm, .string t.st, .slice o1 n1 c1, .slice o2 n2 c2] 30) := by rw [hW]; exact heap_alloc_new wr _
          have hbW : Below wr.heap.size wr W := by rw [hW]; exact valloc_bel (Below.refl _ _) _
          have v0 : W.cell? ⟨wr.heap.size, 1, none⟩ = some (.int .i64 t.kd) := (tcell_heap hbkW 1).trans rfl
          have v1 : W.cell? ⟨wr.heap.size, 2, none⟩ = some (.int .i64 t.nm) := (tcell_heap hbkW 2).trans rfl
          have v2 : W.cell? ⟨wr.heap.size, 3, none⟩ = some (.string t.st) := (tcell_heap hbkW 3).trans rfl
          have v3 : W.cell? ⟨wr.heap.size, 4, none⟩ = some (.slice o1 n1 c1) := (tcell_heap hbkW 4).trans rfl
          have v4 : W.cell? ⟨wr.heap.size, 5, none⟩ = some (.slice o2 n2 c2) := (tcell_heap hbkW 5).trans rfl
          have hnb : b < wr.heap.size := HPI2.out.lt
          have HKW := hid (HKI.out.trans (Kt.of (b := b) hbW (Nat.le_of_lt HPI2.out.lt)))
          have HPW := hid (HPI2.out.on hbW)
          have C1 := hid (CPL.out t _ _ W (HV0.out.onto hbW))
          rw [HPI.out] at C1
          simp only [vv] at C1
          have HBK := hid hbkW
          clear hW hbW dk d0 d1 d2 d3 d4 HV0 HPI hbkW
          cases hpl : plnD t with
          | true =>
            rw [hpl] at C1
            have HE : Hid (bdM (V.take (i + 1)) (K.take (i + 1)) P p.data.toList = bdM (V.take i) (K.take i) P p.data.toList) := hid (by
              rw [HNX.out, bdX_pl hpl])
            clear hpl HHD
            go_wp2_with fail
            go_at_call 29
            refine C1.out.mono ?_
            rintro e w1 ⟨rfl, hb1⟩
            have HK1 := hid (HKW.out.trans (Kt.of (b := b) hb1 (Nat.le_of_lt HPW.out.lt)))
            have HP1 := hid (HPW.out.on hb1)
            clear hb1 C1 HKW HPW v0 v1 v2 v3 v4 HBK
            go_wp2_with fail
            go_roundw
            case rel => exact ⟨i + 1, hlt3, val_int (by omega), (show Tr _ _ _ by rw [HE.out]; exact HP1.out), HK1.out⟩
            case measure => simp [intOf]; omega
          | false =>
            rw [hpl] at C1
            obtain ⟨jq, hjq⟩ : ∃ jq, mkS (jpB p.data.toList cc.data.toList) = jq := ⟨_, rfl⟩
            have CJ1 := hid (fun X => CJ.out cc X hcs)
            rw [hjq] at CJ1
            have CH := hid (fun X hX hP => HHD.out hpl HLX.out X jq hjq.symm hX hP)
            clear hpl HHD hjq
            go_wp2_with fail
            go_at_call 29
            refine C1.out.mono ?_
            rintro e w1 ⟨rfl, hb1⟩
            have HBK1 := hid ((hb1.block _ (theap_lt HBK.out)).trans HBK.out)
            have HK1 := hid (HKW.out.trans (Kt.of (b := b) hb1 (Nat.le_of_lt HPW.out.lt)))
            have HP1 := hid (HPW.out.on hb1)
            have BX := hid (fun (X : World) (hX : Kt b w1 X) (j : Nat) (v : Value) (hv : (#[.string cc, .int .i64 t.kd, .int .i64 t.nm, .string t.st, .slice o1 n1 c1, .slice o2 n2 c2] : Array Value)[j]? = some v) => hX.cellk (j := j) HBK1.out (by omega) (by decide) hv)
            clear hb1 C1 HKW HPW v0 v1 v2 v3 v4 HBK
            go_upto_region 11 with fail
            refine wp_region_h (S := fun X => Kt b w1 X) 8 (by kernel_rfl) (by kernel_rfl) ?_
            have hS0 : Kt b w1 w1.drew := Kt.drew w1
            refine take_h (i := 0) (v := ?_) rfl (by kernel_rfl) (by kernel_rfl) (by kernel_rfl) (fun _ _ _ h => h) (by rfl) ?_ hS0 ?_
            rotate_left
            · (intro X hX; have z0 := BX.out X hX 0 _ rfl; have z1 := BX.out X hX 1 _ rfl; have z2 := BX.out X hX 2 _ rfl; have z3 := BX.out X hX 3 _ rfl; have z4 := BX.out X hX 4 _ rfl; have z5 := BX.out X hX 5 _ rfl; go_simp; try with_reducible rfl)
            simp only [Act.put, List.setIfInBounds_toArray, List.set_cons_zero, List.set_cons_succ]
            refine take_h (i := 1) (v := ?_) rfl (by kernel_rfl) (by kernel_rfl) (by kernel_rfl) (fun _ _ _ h => h) (by rfl) ?_ hS0 ?_
            rotate_left
            · (intro X hX; have z0 := BX.out X hX 0 _ rfl; have z1 := BX.out X hX 1 _ rfl; have z2 := BX.out X hX 2 _ rfl; have z3 := BX.out X hX 3 _ rfl; have z4 := BX.out X hX 4 _ rfl; have z5 := BX.out X hX 5 _ rfl; go_simp; try with_reducible rfl)
            simp only [Act.put, List.setIfInBounds_toArray, List.set_cons_zero, List.set_cons_succ]
            refine take_h (i := 2) (v := ?_) rfl (by kernel_rfl) (by kernel_rfl) (by kernel_rfl) (fun _ _ _ h => h) (by rfl) ?_ hS0 ?_
            rotate_left
            · (intro X hX; have z0 := BX.out X hX 0 _ rfl; have z1 := BX.out X hX 1 _ rfl; have z2 := BX.out X hX 2 _ rfl; have z3 := BX.out X hX 3 _ rfl; have z4 := BX.out X hX 4 _ rfl; have z5 := BX.out X hX 5 _ rfl; go_simp; try with_reducible rfl)
            simp only [Act.put, List.setIfInBounds_toArray, List.set_cons_zero, List.set_cons_succ]
            refine take_h (i := 3) (v := ?_) rfl (by kernel_rfl) (by kernel_rfl) (by kernel_rfl) (fun _ _ _ h => h) (by rfl) ?_ hS0 ?_
            rotate_left
            · (intro X hX; have z0 := BX.out X hX 0 _ rfl; have z1 := BX.out X hX 1 _ rfl; have z2 := BX.out X hX 2 _ rfl; have z3 := BX.out X hX 3 _ rfl; have z4 := BX.out X hX 4 _ rfl; have z5 := BX.out X hX 5 _ rfl; go_simp; try with_reducible rfl)
            simp only [Act.put, List.setIfInBounds_toArray, List.set_cons_zero, List.set_cons_succ]
            refine take_h (i := 4) (v := ?_) rfl (by kernel_rfl) (by kernel_rfl) (by kernel_rfl) (fun _ _ _ h => h) (by rfl) ?_ hS0 ?_
            rotate_left
            · (intro X hX; have z0 := BX.out X hX 0 _ rfl; have z1 := BX.out X hX 1 _ rfl; have z2 := BX.out X hX 2 _ rfl; have z3 := BX.out X hX 3 _ rfl; have z4 := BX.out X hX 4 _ rfl; have z5 := BX.out X hX 5 _ rfl; go_simp; try with_reducible rfl)
            simp only [Act.put, List.setIfInBounds_toArray, List.set_cons_zero, List.set_cons_succ]
            refine take_h (i := 5) (v := ?_) rfl (by kernel_rfl) (by kernel_rfl) (by kernel_rfl) (fun _ _ _ h => h) (by rfl) ?_ hS0 ?_
            rotate_left
            · (intro X hX; have z0 := BX.out X hX 0 _ rfl; have z1 := BX.out X hX 1 _ rfl; have z2 := BX.out X hX 2 _ rfl; have z3 := BX.out X hX 3 _ rfl; have z4 := BX.out X hX 4 _ rfl; have z5 := BX.out X hX 5 _ rfl; go_simp; try with_reducible rfl)
            simp only [Act.put, List.setIfInBounds_toArray, List.set_cons_zero, List.set_cons_succ]
            refine step_h (i := 6) rfl (by kernel_rfl) ?_
            intro KK hKK
            go_simp
            go_wp2_with (go_at_call 33; go_must (refine (CJ1.out _).mono ?_; rintro e w2 ⟨rfl, hb2⟩))
            have hS1 : Kt b w1 w2 := hS0.trans (Kt.of hb2 (Nat.le_of_lt HP1.out.drew.lt))
            have HP2 := hid (HP1.out.drew.on hb2)
            refine hKK.out _ _ hS1 (fun _ => ?_)
            clear hKK KK
            refine step_h (i := 7) rfl (by kernel_rfl) ?_
            intro KK hKK
            go_simp
            go_wp2_with (go_at_call 32; go_must (refine (CH.out _ (HK1.out.trans hS1) HP2.out).mono ?_; rintro e w3 ⟨rfl, hp3, hk3⟩))
            have hS2 : Kt b w1 w3 := hS1.trans hk3
            refine hKK.out _ _ hS2 (fun _ => ?_)
            clear hKK KK
            refine wpAnyH_done (by kernel_rfl) ?_ _
            have HP3 := hid hp3
            have HK3 := hid (HK1.out.trans hS2)
            clear hp3 hk3 hS2 hS1 hS0 hb2 BX HBK1
            go_wp2_with fail
            go_roundw
            case rel => exact ⟨i + 1, hlt3, val_int (by omega), (show Tr _ _ _ by rw [HNX.out]; exact HP3.out), HK3.out⟩
            case measure => simp [intOf]; omega
        · obtain rfl : i = V.length := by omega
          go_wp2_with fail
          first | go_end0 | refine bodyPost_ret (results_none rfl _ _ _) rfl ?_
          refine ⟨rfl, ?_, HKI.out⟩
          have := HPI2.out
          rw [HER.out] at this
          exact this
end Go.Proofs.YtiaepihdfbahaaaGreatDoor
