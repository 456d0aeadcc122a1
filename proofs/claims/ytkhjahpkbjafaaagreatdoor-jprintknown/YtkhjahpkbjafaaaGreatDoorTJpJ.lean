/- The program's printer of JSON: lists and maps, walked; any tree. -/
import Derived.Test.YtkhjahpkbjafaaaGreatDoorTJpI
namespace Go.Proofs.YtkhjahpkbjafaaaGreatDoor
open Go.RowKit

theorem Tryz.eL : ∀ args w, (callFunc 68 args).run Tryz.prog w = .ok (.enter 68 args) w := enters_of Tryz.func68 (by kernel_rfl) rfl
theorem Tryz.eM : ∀ args w, (callFunc 69 args).run Tryz.prog w = .ok (.enter 69 args) w := enters_of Tryz.func69 (by kernel_rfl) rfl
set_option maxRecDepth 100000 in
set_option maxHeartbeats 4000000 in
theorem pvalue_list (N : Nat) (ih : PvOk N) (n : Int) (s : ByteArray) (L : List VT) (x : Value) (o' : Option Addr) (c' : Nat) (b : Nat) (l : List UInt8) (inl : Bool) (k : Nat) (u w : World) (hN : szT (.mk 5 n s L [] []) ≤ N + 1) (hT : HV u (.mk 5 n s L [] []) x (.slice o' 0 c')) (hu : Below u.heap.size u w) (hub : u.heap.size ≤ b) (hg : GlobT u) (hpL : plainL L = true) (h : Pr w b l inl) (hk : k + hgT (.mk 5 n s L [] []) ≤ 9999) (hz : szT (.mk 5 n s L [] []) ≤ 100000)
    (hlen : (txs (tkV (indO inl k) (.mk 5 n s L [] []))).length ≤ 300000000) (hl : l.length + 400000000 * hgT (.mk 5 n s L [] []) ≤ 300000000000) :
    Calls Tryz.prog 51 #[.pointer (some ⟨b, 0, none⟩), .agg #[.int .i64 5, .int .i64 n, .string s, x, .slice o' 0 c'], .int .i64 (k : Int)] w (Wr b (l ++ txs (tkV (indO inl k) (.mk 5 n s L [] []))) inl w) := by
  have hlt := h.lt
  cases hT with
  | mk a b' f g p q hk' hn hs hL hM hK cL cK cM rL rM =>
  obtain ⟨oL, capL, rfl, hL1, hL2, hL3⟩ := hL
  have hsz : szT (.mk 5 n s L [] []) = 1 + szL L := by simp [szT, szL]
  have hhg : hgT (.mk 5 n s L [] []) = 1 + hgL L := by simp [hgT, hgL]
  rw [hsz] at hN hz
  rw [hhg] at hk hl
  have hE := pt_list_end inl k n s L [] []
  have hEl := congrArg List.length hE
  rw [List.length_cons, List.length_append] at hEl
  have hLs : L.length ≤ szL L := len_szL L
  unfold maxLen at hL2
  have hB : Below w.heap.size w (((w.alloc (.cells #[.pointer (some ⟨b, 0, none⟩)] 103)).alloc (.cells #[.int .i64 5, .int .i64 n, .string s, .slice oL L.length capL, .slice o' 0 c'] 27)).alloc (.cells #[.int .i64 (k : Int)] 3)) := valloc_bel (valloc_bel (valloc_bel (Below.refl _ _) _) _) _
  have HP := hid (h.on hB)
  have HK0 := hid (Kp.of hB (Nat.le_of_lt hlt))
  have hB3 : Below u.heap.size u (((w.alloc (.cells #[.pointer (some ⟨b, 0, none⟩)] 103)).alloc (.cells #[.int .i64 5, .int .i64 n, .string s, .slice oL L.length capL, .slice o' 0 c'] 27)).alloc (.cells #[.int .i64 (k : Int)] 3)) := vonto hu hB
  have BX : ∀ X, Kp b (((w.alloc (.cells #[.pointer (some ⟨b, 0, none⟩)] 103)).alloc (.cells #[.int .i64 5, .int .i64 n, .string s, .slice oL L.length capL, .slice o' 0 c'] 27)).alloc (.cells #[.int .i64 (k : Int)] 3)) X → _ := fun X hX => box_facts hlt hX
  have y0 := (BX _ (Kp.refl _ _)).1
  have y1 := (BX _ (Kp.refl _ _)).2.1 0 _ rfl
  have y3 := (BX _ (Kp.refl _ _)).2.1 3 _ rfl
  have y2 := (BX _ (Kp.refl _ _)).2.2
  have CP : Hid (Calls Tryz.prog 67 #[.pointer (some ⟨b, 0, none⟩), .string ⟨#[91]⟩, .string ⟨#[93]⟩, .int .i64 (L.length : Int), .int .i64 (k : Int), .func (.func 68) #[] #[.pointer (some ⟨w.heap.size, 0, none⟩), .pointer (some ⟨w.heap.size + 1, 0, none⟩), .pointer (some ⟨w.heap.size + 2, 0, none⟩)]] (((w.alloc (.cells #[.pointer (some ⟨b, 0, none⟩)] 103)).alloc (.cells #[.int .i64 5, .int .i64 n, .string s, .slice oL L.length capL, .slice o' 0 c'] 27)).alloc (.cells #[.int .i64 (k : Int)] 3)) (Wr b (l ++ txs (tkV (indO inl k) (.mk 5 n s L [] []))) inl (((w.alloc (.cells #[.pointer (some ⟨b, 0, none⟩)] 103)).alloc (.cells #[.int .i64 5, .int .i64 n, .string s, .slice oL L.length capL, .slice o' 0 c'] 27)).alloc (.cells #[.int .i64 (k : Int)] 3)))) := by
    rw [← hE]
    refine pparts_any 68 _ b inl 91 93 L.length k (gL inl k L) l _ Tryz.eL ?_ HP.out (by omega) (by omega) (by omega)
    intro j l' X hj hX hPX hl'
    obtain ⟨t, ht⟩ : ∃ t, L[j]? = some t := ⟨L[j], List.getElem?_eq_getElem hj⟩
    obtain rfl := hL3 (by omega)
    have hab : a.block < u.heap.size := by
      have := World.block_lt_of_cell? u _ (cL j t ht).1
      rw [addr_block] at this; exact this
    have eg : gL inl k L j = txs (tkV (indO inl (k + 1)) t) := by unfold gL; rw [ht]; rfl
    rw [eg]
    have hsub := sub_len (indO inl k) (n := n) (s := s) (K := []) (V := []) ht
    rw [ind_up] at hsub
    have hht := (hgL_get L _).1 (Nat.le_refl _) j t ht
    have hst := szL_get L j t ht
    have hmul : 400000000 * hgT t + 400000000 ≤ 400000000 * (1 + hgL L) := by omega
    refine pclos_list b l' _ inl k t (f j) (g j) w.heap.size (w.heap.size + 1) (w.heap.size + 2) a L.length capL j X (by omega) hj hPX (fun Y hY => (BX Y (hX.trans hY)).1) (fun Y hY => (BX Y (hX.trans hY)).2.1 3 _ rfl) (fun Y hY => (BX Y (hX.trans hY)).2.2) (fun Y hY => ?_) (fun Y hY hPY => ?_)
    · exact (cL j t ht).onto (hB3.trans ((hX.trans hY).1.mono hub))
    · exact ih t (f j) (g j) b l' inl (k + 1) u Y (by omega) (rL j t ht) (hB3.trans ((hX.trans hY).1.mono hub)) hub hg ((plainL_get L).1 hpL j t ht) hPY (by omega) (by omega) (by omega) (by omega)
  clear BX ih hg hpL hu hE hEl hlen hl hN hz hsz hhg cL cK cM rL rM hB hB3 h HP
  go_enter Tryz.func51, Tryz.ntmps51
  go_upto_region 1 with fail
  generalize (((w.alloc (.cells #[.pointer (some ⟨b, 0, none⟩)] 103)).alloc (.cells #[.int .i64 5, .int .i64 n, .string s, .slice oL L.length capL, .slice o' 0 c'] 27)).alloc (.cells #[.int .i64 (k : Int)] 3)) = W3 at y0 y1 y2 y3 CP HK0 ⊢
  go_wp2_with fail
  go_at_call 67
  refine CP.out.mono ?_
  rintro e w1 ⟨rfl, hp1, hk1⟩
  go_wp2_with fail
  first | go_end0 | refine bodyPost_ret (results_none rfl _ _ _) rfl ?_
  exact ⟨rfl, hp1, HK0.out.trans hk1⟩
end Go.Proofs.YtkhjahpkbjafaaaGreatDoor
