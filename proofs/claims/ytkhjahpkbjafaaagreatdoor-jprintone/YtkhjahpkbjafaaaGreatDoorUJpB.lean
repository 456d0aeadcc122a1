/- The program's printer of JSON: lists and maps, walked; any tree. -/
import Derived.Test.YtkhjahpkbjafaaaGreatDoorUJpI
import Derived.Test.YtkhjahpkbjafaaaGreatDoorUJpA
import Derived.Shelf.Strings.BuilderX
/- The program's printer of JSON: maps, and any tree; what is written of a value. -/
/- What a printer has written, as a string. -/
namespace Go.Proofs.YtkhjahpkbjafaaaGreatDoor
open Go.RowKit

theorem Tryz.eL : ∀ args w, (callFunc 68 args).run Tryz.prog w = .ok (.enter 68 args) w := enters_of Tryz.func68 (by kernel_rfl) rfl
theorem Tryz.eM : ∀ args w, (callFunc 69 args).run Tryz.prog w = .ok (.enter 69 args) w := enters_of Tryz.func69 (by kernel_rfl) rfl
set_option maxRecDepth 100000 in
set_option maxHeartbeats 4000000 in
theorem pvalue_list (N : Nat) (ih : PvOk N) (n : Int) (s : ByteArray) (L : List VT) (x : Value) (o' : Option Addr) (c' : Nat) (b : Nat) (l : List UInt8) (inl : Bool) (k : Nat) (u w : World) (hN : szT (.mk 5 n s L [] []) ≤ N + 1) (hT : HV u (.mk 5 n s L [] []) x (.slice o' 0 c')) (hu : Below u.heap.size u w) (hub : u.heap.size ≤ b) (hg : GlobT u) (hpL : plainL L = true) (h : Pr w b l inl) (hk : k + hgT (.mk 5 n s L [] []) ≤ 9999) (hz : szT (.mk 5 n s L [] []) ≤ 100000)
    (hlen : (txs (tkV (indO inl k) (.mk 5 n s L [] []))).length ≤ 300000000) (hl : l.length + 400000000 * hgT (.mk 5 n s L [] []) ≤ 300000000000) :
    Calls Tryz.prog 51 #[.pointer (some ⟨b, 0, none⟩), .agg #[.int .i64 5, .int .i64 n, .string s, x, .slice o' 0 c'], .int .i64 (k : Int)] w (Wr b (l ++ txs (tkV (indO inl k) (.mk 5 n s L [] []))) inl w) := by
  have hlt := h.lt
  cases hT with
  | mk a b' f g p q hk' hn hs hL hM hK cL cK cM rL rM =>
  obtain ⟨oL, capL, rfl, hL1, hL2, hL3⟩ := hL
  have hsz : szT (.mk 5 n s L [] []) = 1 + szL L := by simp [szT, szL]
  have hhg : hgT (.mk 5 n s L [] []) = 1 + hgL L := by simp [hgT, hgL]
  rw [hsz] at hN hz
  rw [hhg] at hk hl
  have hE := pt_list_end inl k n s L [] []
  have hEl := congrArg List.length hE
  rw [List.length_cons, List.length_append] at hEl
  have hLs : L.length ≤ szL L := len_szL L
  unfold maxLen at hL2
  have hB : Below w.heap.size w (((w.alloc (.cells #[.pointer (some ⟨b, 0, none⟩)] 103)).alloc (.cells #[.int .i64 5, .int .i64 n, .string s, .slice oL L.length capL, .slice o' 0 c'] 27)).alloc (.cells #[.int .i64 (k : Int)] 3)) := valloc_bel (valloc_bel (valloc_bel (Below.refl _ _) _) _) _
  have HP := hid (h.on hB)
  have HK0 := hid (Kp.of hB (Nat.le_of_lt hlt))
  have hB3 : Below u.heap.size u (((w.alloc (.cells #[.pointer (some ⟨b, 0, none⟩)] 103)).alloc (.cells #[.int .i64 5, .int .i64 n, .string s, .slice oL L.length capL, .slice o' 0 c'] 27)).alloc (.cells #[.int .i64 (k : Int)] 3)) := vonto hu hB
  have BX : ∀ X, Kp b (((w.alloc (.cells #[.pointer (some ⟨b, 0, none⟩)] 103)).alloc (.cells #[.int .i64 5, .int .i64 n, .string s, .slice oL L.length capL, .slice o' 0 c'] 27)).alloc (.cells #[.int .i64 (k : Int)] 3)) X → _ := fun X hX => box_facts hlt hX
  have y0 := (BX _ (Kp.refl _ _)).1
  have y1 := (BX _ (Kp.refl _ _)).2.1 0 _ rfl
  have y3 := (BX _ (Kp.refl _ _)).2.1 3 _ rfl
  have y2 := (BX _ (Kp.refl _ _)).2.2
  have CP : Hid (Calls Tryz.prog 67 #[.pointer (some ⟨b, 0, none⟩), .string ⟨#[91]⟩, .string ⟨#[93]⟩, .int .i64 (L.length : Int), .int .i64 (k : Int), .func (.func 68) #[] #[.pointer (some ⟨w.heap.size, 0, none⟩), .pointer (some ⟨w.heap.size + 1, 0, none⟩), .pointer (some ⟨w.heap.size + 2, 0, none⟩)]] (((w.alloc (.cells #[.pointer (some ⟨b, 0, none⟩)] 103)).alloc (.cells #[.int .i64 5, .int .i64 n, .string s, .slice oL L.length capL, .slice o' 0 c'] 27)).alloc (.cells #[.int .i64 (k : Int)] 3)) (Wr b (l ++ txs (tkV (indO inl k) (.mk 5 n s L [] []))) inl (((w.alloc (.cells #[.pointer (some ⟨b, 0, none⟩)] 103)).alloc (.cells #[.int .i64 5, .int .i64 n, .string s, .slice oL L.length capL, .slice o' 0 c'] 27)).alloc (.cells #[.int .i64 (k : Int)] 3)))) := by
    rw [← hE]
    refine pparts_any 68 _ b inl 91 93 L.length k (gL inl k L) l _ Tryz.eL ?_ HP.out (by omega) (by omega) (by omega)
    intro j l' X hj hX hPX hl'
    obtain ⟨t, ht⟩ : ∃ t, L[j]? = some t := ⟨L[j], List.getElem?_eq_getElem hj⟩
    obtain rfl := hL3 (by omega)
    have hab : a.block < u.heap.size := by
      have := World.block_lt_of_cell? u _ (cL j t ht).1
      rw [addr_block] at this; exact this
    have eg : gL inl k L j = txs (tkV (indO inl (k + 1)) t) := by unfold gL; rw [ht]; rfl
    rw [eg]
    have hsub := sub_len (indO inl k) (n := n) (s := s) (K := []) (V := []) ht
    rw [ind_up] at hsub
    have hht := (hgL_get L _).1 (Nat.le_refl _) j t ht
    have hst := szL_get L j t ht
    have hmul : 400000000 * hgT t + 400000000 ≤ 400000000 * (1 + hgL L) := by omega
    refine pclos_list b l' _ inl k t (f j) (g j) w.heap.size (w.heap.size + 1) (w.heap.size + 2) a L.length capL j X (by omega) hj hPX (fun Y hY => (BX Y (hX.trans hY)).1) (fun Y hY => (BX Y (hX.trans hY)).2.1 3 _ rfl) (fun Y hY => (BX Y (hX.trans hY)).2.2) (fun Y hY => ?_) (fun Y hY hPY => ?_)
    · exact (cL j t ht).onto (hB3.trans ((hX.trans hY).1.mono hub))
    · exact ih t (f j) (g j) b l' inl (k + 1) u Y (by omega) (rL j t ht) (hB3.trans ((hX.trans hY).1.mono hub)) hub hg ((plainL_get L).1 hpL j t ht) hPY (by omega) (by omega) (by omega) (by omega)
  clear BX ih hg hpL hu hE hEl hlen hl hN hz hsz hhg cL cK cM rL rM hB hB3 h HP
  go_enter Tryz.func51, Tryz.ntmps51
  go_upto_region 1 with fail
  generalize (((w.alloc (.cells #[.pointer (some ⟨b, 0, none⟩)] 103)).alloc (.cells #[.int .i64 5, .int .i64 n, .string s, .slice oL L.length capL, .slice o' 0 c'] 27)).alloc (.cells #[.int .i64 (k : Int)] 3)) = W3 at y0 y1 y2 y3 CP HK0 ⊢
  go_wp2_with fail
  go_at_call 67
  refine CP.out.mono ?_
  rintro e w1 ⟨rfl, hp1, hk1⟩
  go_wp2_with fail
  first | go_end0 | refine bodyPost_ret (results_none rfl _ _ _) rfl ?_
  exact ⟨rfl, hp1, HK0.out.trans hk1⟩
end Go.Proofs.YtkhjahpkbjafaaaGreatDoor
namespace Go.Proofs.YtkhjahpkbjafaaaGreatDoor
open Go.RowKit

set_option maxRecDepth 100000 in
set_option maxHeartbeats 4000000 in
theorem pvalue_map (N : Nat) (ih : PvOk N) (n : Int) (s : ByteArray) (V : List VT) (K : List ByteArray) (x : Value) (o' : Option Addr) (c' : Nat) (b : Nat) (l : List UInt8) (inl : Bool) (k : Nat) (u w : World) (hN : szT (.mk 6 n s [] K V) ≤ N + 1) (hT : HV u (.mk 6 n s [] K V) (.slice o' 0 c') x) (hu : Below u.heap.size u w) (hub : u.heap.size ≤ b) (hg : GlobT u) (hpL : plainL V = true) (hks : ∀ c ∈ K, teI c = 0) (h : Pr w b l inl) (hk : k + hgT (.mk 6 n s [] K V) ≤ 9999) (hz : szT (.mk 6 n s [] K V) ≤ 100000)
    (hlen : (txs (tkV (indO inl k) (.mk 6 n s [] K V))).length ≤ 300000000) (hl : l.length + 400000000 * hgT (.mk 6 n s [] K V) ≤ 300000000000) :
    Calls Tryz.prog 51 #[.pointer (some ⟨b, 0, none⟩), .agg #[.int .i64 6, .int .i64 n, .string s, .slice o' 0 c', x], .int .i64 (k : Int)] w (Wr b (l ++ txs (tkV (indO inl k) (.mk 6 n s [] K V))) inl w) := by
  have hlt := h.lt
  cases hT with
  | mk a b' f g p q hk' hn hs hL hM hK cL cK cM rL rM =>
  obtain ⟨oL, capL, rfl, hL1, hL2, hL3⟩ := hM
  have hsz : szT (.mk 6 n s [] K V) = 1 + szL V := by simp [szT, szL]
  have hhg : hgT (.mk 6 n s [] K V) = 1 + hgL V := by simp [hgT, hgL]
  rw [hsz] at hN hz
  rw [hhg] at hk hl
  have hE := pt_map_end inl k n s [] K V hK
  have hEl := congrArg List.length hE
  rw [List.length_cons, List.length_append] at hEl
  have hLs : V.length ≤ szL V := len_szL V
  unfold maxLen at hL2
  have hB : Below w.heap.size w (((w.alloc (.cells #[.pointer (some ⟨b, 0, none⟩)] 103)).alloc (.cells #[.int .i64 6, .int .i64 n, .string s, .slice o' 0 c', .slice oL V.length capL] 27)).alloc (.cells #[.int .i64 (k : Int)] 3)) := valloc_bel (valloc_bel (valloc_bel (Below.refl _ _) _) _) _
  have HP := hid (h.on hB)
  have HK0 := hid (Kp.of hB (Nat.le_of_lt hlt))
  have hB3 : Below u.heap.size u (((w.alloc (.cells #[.pointer (some ⟨b, 0, none⟩)] 103)).alloc (.cells #[.int .i64 6, .int .i64 n, .string s, .slice o' 0 c', .slice oL V.length capL] 27)).alloc (.cells #[.int .i64 (k : Int)] 3)) := vonto hu hB
  have BX : ∀ X, Kp b (((w.alloc (.cells #[.pointer (some ⟨b, 0, none⟩)] 103)).alloc (.cells #[.int .i64 6, .int .i64 n, .string s, .slice o' 0 c', .slice oL V.length capL] 27)).alloc (.cells #[.int .i64 (k : Int)] 3)) X → _ := fun X hX => box_facts hlt hX
  have y0 := (BX _ (Kp.refl _ _)).1
  have y1 := (BX _ (Kp.refl _ _)).2.1 0 _ rfl
  have y3 := (BX _ (Kp.refl _ _)).2.1 4 _ rfl
  have y2 := (BX _ (Kp.refl _ _)).2.2
  have CP : Hid (Calls Tryz.prog 67 #[.pointer (some ⟨b, 0, none⟩), .string ⟨#[123]⟩, .string ⟨#[125]⟩, .int .i64 (V.length : Int), .int .i64 (k : Int), .func (.func 69) #[] #[.pointer (some ⟨w.heap.size, 0, none⟩), .pointer (some ⟨w.heap.size + 1, 0, none⟩), .pointer (some ⟨w.heap.size + 2, 0, none⟩)]] (((w.alloc (.cells #[.pointer (some ⟨b, 0, none⟩)] 103)).alloc (.cells #[.int .i64 6, .int .i64 n, .string s, .slice o' 0 c', .slice oL V.length capL] 27)).alloc (.cells #[.int .i64 (k : Int)] 3)) (Wr b (l ++ txs (tkV (indO inl k) (.mk 6 n s [] K V))) inl (((w.alloc (.cells #[.pointer (some ⟨b, 0, none⟩)] 103)).alloc (.cells #[.int .i64 6, .int .i64 n, .string s, .slice o' 0 c', .slice oL V.length capL] 27)).alloc (.cells #[.int .i64 (k : Int)] 3)))) := by
    rw [← hE]
    refine pparts_any 69 _ b inl 123 125 V.length k (gM inl k V K) l _ Tryz.eM ?_ HP.out (by omega) (by omega) (by omega)
    intro j l' X hj hX hPX hl'
    obtain ⟨t, ht⟩ : ∃ t, V[j]? = some t := ⟨V[j], List.getElem?_eq_getElem hj⟩
    obtain ⟨c, hc⟩ : ∃ c, K[j]? = some c := ⟨K[j]'(by omega), List.getElem?_eq_getElem (by omega)⟩
    obtain rfl := hL3 (by omega)
    have hab : b'.block < u.heap.size := by
      have := World.block_lt_of_cell? u _ (cK j c hc).1
      rw [addr_block] at this; exact this
    have hcs := (te_vl (hks c (List.mem_of_getElem? hc))).2
    have hql := qt_len hcs
    have hcl := cln_le (indO inl 0)
    rw [size_list] at hcs
    rw [gM_at ht hc]
    have hsub := sub_lenM (indO inl k) (n := n) (s := s) (L := []) hK ht hc
    rw [ind_up] at hsub
    have hht := (hgL_get V _).1 (Nat.le_refl _) j t ht
    have hst := szL_get V j t ht
    have hmul : 400000000 * hgT t + 400000000 ≤ 400000000 * (1 + hgL V) := by omega
    rw [← List.append_assoc]
    refine pclos_map b l' _ inl k t c (p j) (q j) w.heap.size (w.heap.size + 1) (w.heap.size + 2) b' V.length capL j X (by omega) hj hcs (by omega) hPX (fun Y hY => (BX Y (hX.trans hY)).1) (fun Y hY => (BX Y (hX.trans hY)).2.1 4 _ rfl) (fun Y hY => (BX Y (hX.trans hY)).2.2) (fun Y hY => ?_) (fun Y hY => ?_) (fun Y hY hPY => ?_)
    · exact keepCell (hB3.trans ((hX.trans hY).1.mono hub)) (cK j c hc).1
    · exact (cM j t ht).onto (hB3.trans ((hX.trans hY).1.mono hub))
    · exact ih t (p j) (q j) b _ inl (k + 1) u Y (by omega) (rM j t ht) (hB3.trans ((hX.trans hY).1.mono hub)) hub hg ((plainL_get V).1 hpL j t ht) hPY (by omega) (by omega) (by omega) (by rw [List.length_append, List.length_append]; omega)
  clear BX ih hg hpL hks hu hE hEl hlen hl hN hz hsz hhg cL cK cM rL rM hB hB3 h HP
  go_enter Tryz.func51, Tryz.ntmps51
  go_upto_region 1 with fail
  generalize (((w.alloc (.cells #[.pointer (some ⟨b, 0, none⟩)] 103)).alloc (.cells #[.int .i64 6, .int .i64 n, .string s, .slice o' 0 c', .slice oL V.length capL] 27)).alloc (.cells #[.int .i64 (k : Int)] 3)) = W3 at y0 y1 y2 y3 CP HK0 ⊢
  go_wp2_with fail
  go_at_call 67
  refine CP.out.mono ?_
  rintro e w1 ⟨rfl, hp1, hk1⟩
  go_wp2_with fail
  first | go_end0 | refine bodyPost_ret (results_none rfl _ _ _) rfl ?_
  exact ⟨rfl, hp1, HK0.out.trans hk1⟩
theorem pvalue_any : ∀ N : Nat, PvOk N
  | 0 => fun T x y b l inl k u w h => by have := szT_pos T; omega
  | N + 1 => by
    intro T x y b l inl k u w hN hT hu hub hg hp hP hk hz hlen hl
    cases T with
    | mk kd n s L K V =>
      have hwf := hT.wfT
      rw [plainT, Bool.and_eq_true, Bool.and_eq_true] at hp
      obtain ⟨⟨hnode, hpL⟩, hpV⟩ := hp
      have hnb := hnode
      unfold nodeB nodeC at hnb
      simp only [VT.kd, VT.nm, VT.st, VT.ls, VT.ks, VT.vs] at hnb
      rw [Proofs.YtkhjahpkbjafaaaGreatDoor.wfT] at hwf
      obtain ⟨hwn, hKV, -, -⟩ := hwf
      obtain ⟨oL, nL, cL, oM, nM, cM, rfl, rfl, rfl, rfl⟩ : ∃ oL nL cL oM nM cM, x = .slice oL nL cL ∧ y = .slice oM nM cM ∧ nL = L.length ∧ nM = V.length := by
        cases hT with
        | mk a b f g p q hk hn hs hL hM hK cL cK cM rL rM =>
          obtain ⟨oL, capL, rfl, -, -, -⟩ := hL
          obtain ⟨oM, capM, rfl, -, -, -⟩ := hM
          exact ⟨_, _, _, _, _, _, rfl, rfl, rfl, rfl⟩
      by_cases h5 : kd = 5
      · subst h5
        simp at hnb
        obtain rfl := hnb.2
        obtain rfl : K = [] := List.eq_nil_of_length_eq_zero hKV
        exact pvalue_list N (pvalue_any N) n s L _ oM cM b l inl k u w hN hT hu hub hg hpL hP hk hz hlen hl
      by_cases h6 : kd = 6
      · subst h6
        simp at hnb
        obtain rfl := hnb.1.2
        exact pvalue_map N (pvalue_any N) n s V K _ oL cL b l inl k u w hN hT hu hub hg hpV (keys_te hnb.2) hP hk hz hlen hl
      have hE : txs (tkV (indO inl k) (.mk kd n s L K V)) = (tkS kd n s).tx := by rw [tkV, if_neg h5, if_neg h6]; simp [txs]
      rw [hE]
      exact pvalue_leaf kd n s L V K _ _ b l inl k w (hg.on hu) hwn hnode h5 h6 hP (by omega)
end Go.Proofs.YtkhjahpkbjafaaaGreatDoor
namespace Go.Proofs.YtkhjahpkbjafaaaGreatDoor
open Go.RowKit

theorem str_byte (l : List UInt8) : Lib.strCells (mkS l) = Lib.byteCells l := by
  unfold Lib.strCells Lib.byteCells
  rw [mkS_list]
set_option maxRecDepth 100000 in
set_option maxHeartbeats 1000000 in
theorem pstring_any (b : Nat) (l : List UInt8) (inl : Bool) (w : World) (h : Pr w b l inl) (h0 : l ≠ []) :
    Calls Tryz.prog 52 #[.pointer (some ⟨b, 0, none⟩)] w fun e w' => e = .returned (.string (mkS l)) ∧ Below b w w' := by
  obtain ⟨p, v, hbk, hp, hown⟩ := h
  have hl0 : l.length ≠ 0 := by simpa using h0
  rw [str_byte] at hown
  obtain ⟨g, cap, cur, rfl, hbg, hg, hnc, hcm, hcs, htake⟩ : ∃ g cap cur, v = .slice (some ⟨g, 0, none⟩) l.length cap ∧ b + 1 ≤ g ∧ w.heap[g]? = some (.cells cur 5) ∧ l.length ≤ cap ∧ cap ≤ maxLen ∧ cur.size = cap * 1 ∧ cur.toList.take (l.length * 1) = Lib.byteCells l := by
    rcases hown.2 with ⟨_, hz⟩ | ⟨g, cap, cur, hv, r⟩
    · exact absurd hz hl0
    · exact ⟨g, cap, cur, hv, r⟩
  have c1 : w.drew.cell? ⟨b, 1, none⟩ = some (.slice (some ⟨g, 0, none⟩) l.length cap) := by
    have : w.drew.heap[b]? = some (.cells #[p, .slice (some ⟨g, 0, none⟩) l.length cap, .bool inl] 83 (0, 0)) := hbk
    rw [cell_heap this]; rfl
  have hSD : (Builtin.unsafeSliceData_ #[34] 111 #[.slice (some ⟨g, 0, none⟩) l.length cap]).run Tryz.prog w.drew = .ok (.pointer (some ⟨g, 0, none⟩)) w.drew :=
    Lib.run_unsafeSliceData_row _ _ _ _ _ _ (by omega)
  have hUS : (Builtin.unsafeString_ #[111, 3] 9 #[.pointer (some ⟨g, 0, none⟩), .int .i64 l.length]).run Tryz.prog w.drew = .ok (.string ⟨l.toArray⟩) (w.drew.freeze ⟨g, 0, none⟩ l.length) := by
    refine Lib.run_unsafeString_row w.drew 111 3 9 5 Tryz.underlying111 (by kernel_rfl) g cur.size (by have hg' : w.drew.heap[g]? = some (.cells cur 5) := hg; simp [World.shape?, hg']) l h0 (by omega) (by unfold maxLen at hcm; omega) ?_
    intro j x hx
    have := hown.cells (g := g) rfl j (.int .u8 x.toNat) (by simp [Lib.byteCells, hx])
    exact this
  have mixed : Tryz.prog.follows .mixedOrders = true := by kernel_rfl
  go_enter Tryz.func52, Tryz.ntmps52
  go_wp2
  go_region_o
  all_goals (go_wp2; go_ret; exact ⟨rfl, Lib.below_freeze (Below.drew (Below.refl b w)) (p := ⟨g, 0, none⟩) (show b ≤ g by omega) _⟩)
end Go.Proofs.YtkhjahpkbjafaaaGreatDoor
