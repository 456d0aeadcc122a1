import Derived.Test.YtjbccmnmcjmooaaDoorCrI
/- cread's Rows and Valid. -/
namespace Go.Proofs.YtjbccmnmcjmooaaDoor
open Go.RowKit

set_option maxRecDepth 100000 in
set_option maxHeartbeats 1000000 in
theorem ccatch_idle (p : Addr) (w : World) :
    CallsD Tryd.prog 26 #[.pointer (some p)] .returning w fun e u' w' => e = .returned (.tuple #[]) ∧ u' = .returning ∧ w' = w := by
  refine callsD_of_wpS Tryd.func26 rfl fun c₀ cs hu => ?_
  apply wpS_seq
  apply wpS_region
  simp [wpOpsS, go_sem, recoverD, hu, Tryd.ntmps26, Exit.thenS]
  apply wpS_seq
  apply wpS_region
  simp [wpOpsS, go_sem, Exit.thenS]
  refine wpS_cond (t := false) (by simp [Act.eval, Array.replicate]) ?_
  simp only [Bool.false_eq_true, if_false]
  refine wpS_of_wp (wp_skip ?_)
  cases c₀
  simp_all [bodyPostS, results, Tryd.results26]
theorem Tryd.ctassert (v : Value) (w : World) : (Instr.typeAssert (.iface 30 v) 20 30 false).run Tryd.prog w = .ok v w := by kernel_rfl
set_option maxRecDepth 100000 in
set_option maxHeartbeats 1000000 in
theorem ccatch_fault (p : Addr) (a b c d : Value) (x0 x1 x2 x3 : Int) (older : List PanicEntry) (w : World) (h0 : w.cell? ⟨p.block, 0, none⟩ = some a) (h1 : w.cell? ⟨p.block, 1, none⟩ = some b) (h2 : w.cell? ⟨p.block, 2, none⟩ = some c) (h3 : w.cell? ⟨p.block, 3, none⟩ = some d) (hf : ∀ o, w.frozen? ⟨p.block, o, none⟩ = false) :
    CallsD Tryd.prog 26 #[.pointer (some ⟨p.block, 0, none⟩)] (.panicking ({ v := .iface 30 (.agg #[.int .i64 x0, .int .i64 x1, .int .i64 x2, .int .i64 x3]), recovered := false } :: older)) w fun e u' w' =>
      e = .returned (.tuple #[]) ∧ u' = .panicking ({ v := .iface 30 (.agg #[.int .i64 x0, .int .i64 x1, .int .i64 x2, .int .i64 x3]), recovered := true } :: older) ∧ w' = (((w.setCell ⟨p.block, 0, none⟩ (.int .i64 x0)).setCell ⟨p.block, 1, none⟩ (.int .i64 x1)).setCell ⟨p.block, 2, none⟩ (.int .i64 x2)).setCell ⟨p.block, 3, none⟩ (.int .i64 x3) := by
  refine callsD_of_wpS Tryd.func26 rfl fun c₀ cs hu => ?_
  apply wpS_seq
  apply wpS_region
  simp [wpOpsS, go_sem, recoverD, hu, Tryd.ntmps26, Exit.thenS]
  apply wpS_seq
  apply wpS_region
  simp [wpOpsS, go_sem, Exit.thenS]
  refine wpS_cond (t := true) (by simp [Act.eval, Array.replicate]) ?_
  simp only [if_true]
  apply wpS_region
  simp [wpOpsS, go_sem, Tryd.ctassert, h0, h1, h2, h3, hf, bodyPostS, results, Tryd.results26]
/-- what Rows ends in -/
def Tq (t : ByteArray) (w : World) (R : CTR) (e : Ending) (w' : World) : Prop := match R with
  | .ok rs => ∃ o n c E, e = .returned (.tuple #[.slice o n c, .agg #[.int .i64 0, .int .i64 0, .int .i64 0, .int .i64 0]]) ∧ E.map (·.1) = rs ∧ Rws w' w.heap.size (.slice o n c) E ∧ Below w.heap.size w w'
  | .bad er r => e = .returned (.tuple #[.slice none 0 0, faultV t ((t.size - r.length : Nat) : Int) (er : Int)]) ∧ Below w.heap.size w w'
theorem four_new (w : World) : (w.alloc (.cells #[.int .i64 0, .int .i64 0, .int .i64 0, .int .i64 0] 30)).cell? ⟨w.heap.size, 0, none⟩ = some (.int .i64 0) ∧ (w.alloc (.cells #[.int .i64 0, .int .i64 0, .int .i64 0, .int .i64 0] 30)).cell? ⟨w.heap.size, 1, none⟩ = some (.int .i64 0) ∧ (w.alloc (.cells #[.int .i64 0, .int .i64 0, .int .i64 0, .int .i64 0] 30)).cell? ⟨w.heap.size, 2, none⟩ = some (.int .i64 0) ∧ (w.alloc (.cells #[.int .i64 0, .int .i64 0, .int .i64 0, .int .i64 0] 30)).cell? ⟨w.heap.size, 3, none⟩ = some (.int .i64 0) := by
  have h := new_cells w [.int .i64 0, .int .i64 0, .int .i64 0, .int .i64 0] 30
  have a0 := h 0 _ rfl
  have a1 := h 1 _ rfl
  have a2 := h 2 _ rfl
  have a3 := h 3 _ rfl
  rw [add_at] at a0 a1 a2 a3
  exact ⟨a0, a1, a2, a3⟩
set_option maxRecDepth 100000 in
set_option maxHeartbeats 2000000 in
theorem crows_bad (t : ByteArray) (er : Nat) (r : List UInt8) (w : World) (hread : ∀ X, Calls Tryd.prog 27 #[.string t] X (To t X (.bad er r))) :
    Calls Tryd.prog 15 #[.string t] w (Tq t w (.bad er r)) := by
  have hmf : ∀ (fn : Fn) (first cap : Array Value) (w : World), (Instr.makeFunc fn first cap).run Tryd.prog w = .ok (.func fn first cap) w := fun _ _ _ _ => rfl
  have CR := hid hread
  have hb0 := valloc_bel (Below.refl w.heap.size w) (.cells #[.int .i64 0, .int .i64 0, .int .i64 0, .int .i64 0] 30)
  have HB0 := hid hb0
  have H4 := hid (four_new w)
  have HR0 := hid (Row.new w #[.int .i64 0, .int .i64 0, .int .i64 0, .int .i64 0] 30)
  clear hread hb0
  go_enter_defers Tryd.func15, Tryd.ntmps15
  go_wp2_with fail
  go_at_call 27
  refine (CR.out _).mono ?_
  rintro e w1 ⟨hfa, hb1⟩
  unfold cFaulted at hfa
  subst hfa
  have HB1 := hid (vonto HB0.out hb1)
  have c0 := keepCell hb1 H4.out.1
  have c1 := keepCell hb1 H4.out.2.1
  have c2 := keepCell hb1 H4.out.2.2.1
  have c3 := keepCell hb1 H4.out.2.2.2
  have cf := (HR0.out.onto (hb1.block _ HR0.out.lt)).frozen
  clear hb1 CR HR0 H4 HB0
  obtain ⟨at_, hat⟩ : ∃ a, t.size - r.length = a := ⟨_, rfl⟩
  have HAT := hid hat
  rw [hat]
  clear hat
  unfold faultV
  go_wp2_with fail
  refine leaves_cons (f := 26) (args := #[.pointer (some ⟨w.heap.size, 0, none⟩)]) (by simp) (by simp [go_sem]) ?_
  refine (ccatch_fault ⟨w.heap.size, 0, none⟩ _ _ _ _ _ _ _ _ [] w1 c0 c1 c2 c3 cf).mono ?_
  rintro e u' w' ⟨rfl, rfl, rfl⟩
  have HB2 : Below w.heap.size w ((((w1.setCell ⟨w.heap.size, 0, none⟩ (.int .i64 (er : Int))).setCell ⟨w.heap.size, 1, none⟩ (.int .i64 (clN t.size at_ : Int))).setCell ⟨w.heap.size, 2, none⟩ (.int .i64 (ofL t at_ : Int))).setCell ⟨w.heap.size, 3, none⟩ (.int .i64 (ofC t at_ : Int))) := vset_bel (vset_bel (vset_bel (vset_bel HB1.out (Nat.le_refl _)) (Nat.le_refl _)) (Nat.le_refl _)) (Nat.le_refl _)
  simp [settle, Leaves, results, Tryd.results15, go_sem, c0, c1, c2, c3]
  exact ⟨by rw [HAT.out]; rfl, HB2⟩
theorem Rws.set {W : World} {base b o : Nat} {u x : Value} {E : List (List (List UInt8) × Value)} (h : Rws W base u E) (hb : b < base) : Rws (W.setCell ⟨b, o, none⟩ x) base u E := h.far (Own.set (Own.refl b W) o x) hb
set_option maxRecDepth 100000 in
set_option maxHeartbeats 2000000 in
theorem crows_ok (t : ByteArray) (rs : List (List (List UInt8))) (w : World) (hread : ∀ X, Calls Tryd.prog 27 #[.string t] X (To t X (.ok rs))) :
    Calls Tryd.prog 15 #[.string t] w (Tq t w (.ok rs)) := by
  have hmf : ∀ (fn : Fn) (first cap : Array Value) (w : World), (Instr.makeFunc fn first cap).run Tryd.prog w = .ok (.func fn first cap) w := fun _ _ _ _ => rfl
  have CR := hid hread
  have hb0 := valloc_bel (Below.refl w.heap.size w) (.cells #[.int .i64 0, .int .i64 0, .int .i64 0, .int .i64 0] 30)
  have HB0 := hid hb0
  have H4 := hid (four_new w)
  have HR0 := hid (Row.new w #[.int .i64 0, .int .i64 0, .int .i64 0, .int .i64 0] 30)
  clear hread hb0
  go_enter_defers Tryd.func15, Tryd.ntmps15
  go_wp2_with fail
  go_at_call 27
  refine (CR.out _).mono ?_
  rintro e w1 ⟨o, n, c, E, rfl, hE, hR, hb1⟩
  have HB1 := hid (vonto HB0.out hb1)
  have HE := hid hE
  have HRW := hid (show Rws w1 (w.heap.size + 1) (.slice o n c) E by simpa using hR)
  have c0 := keepCell hb1 H4.out.1
  have c1 := keepCell hb1 H4.out.2.1
  have c2 := keepCell hb1 H4.out.2.2.1
  have c3 := keepCell hb1 H4.out.2.2.2
  have cf := (HR0.out.onto (hb1.block _ HR0.out.lt)).frozen
  clear hb1 CR HR0 H4 HB0 hE hR
  go_wp2_with fail
  refine leaves_cons (f := 26) (args := #[.pointer (some ⟨w.heap.size, 0, none⟩)]) (by simp) (by simp [go_sem]) ?_
  refine (ccatch_idle ⟨w.heap.size, 0, none⟩ _).mono ?_
  rintro e u' w' ⟨rfl, rfl, rfl⟩
  have HB2 : Below w.heap.size w ((((w1.setCell ⟨w.heap.size, 0, none⟩ (.int .i64 0)).setCell ⟨w.heap.size, 1, none⟩ (.int .i64 0)).setCell ⟨w.heap.size, 2, none⟩ (.int .i64 0)).setCell ⟨w.heap.size, 3, none⟩ (.int .i64 0)) := vset_bel (vset_bel (vset_bel (vset_bel HB1.out (Nat.le_refl _)) (Nat.le_refl _)) (Nat.le_refl _)) (Nat.le_refl _)
  have HR2 : Rws ((((w1.setCell ⟨w.heap.size, 0, none⟩ (.int .i64 0)).setCell ⟨w.heap.size, 1, none⟩ (.int .i64 0)).setCell ⟨w.heap.size, 2, none⟩ (.int .i64 0)).setCell ⟨w.heap.size, 3, none⟩ (.int .i64 0)) w.heap.size (.slice o n c) E := (((((HRW.out.set (Nat.lt_succ_self _)).set (Nat.lt_succ_self _)).set (Nat.lt_succ_self _)).set (Nat.lt_succ_self _)).mono (by omega))
  simp [settle, Leaves, results, Tryd.results15, go_sem, c0, c1, c2, c3]
  exact ⟨_, _, _, E, rfl, HE.out, HR2, HB2⟩
theorem crows_any (t : ByteArray) (w : World) (hs : t.size ≤ 1000000) :
    Calls Tryd.prog 15 #[.string t] w (Tq t w (csvR fldP t.data.toList)) := by
  have h := fun X => cread_any t X hs
  cases hc : csvR fldP t.data.toList with
  | ok rs => rw [hc] at h; exact crows_ok t rs w h
  | bad er r => rw [hc] at h; exact crows_bad t er r w h
/-- the errno of an outcome -/
def ctrErr : CTR → Nat
  | .ok _ => 0
  | .bad er _ => er
theorem tq_shape {t : ByteArray} {R : CTR} {w w' : World} {e : Ending} (h : Tq t w R e w') : ∃ (o : Option Addr) (n c : Nat) (x y z : Int), e = .returned (.tuple #[.slice o n c, .agg #[.int .i64 (ctrErr R : Int), .int .i64 x, .int .i64 y, .int .i64 z]]) ∧ Below w.heap.size w w' := by
  cases R with
  | ok rs => obtain ⟨o, n, c, E, rfl, -, -, hb⟩ := h; exact ⟨_, _, _, _, _, _, rfl, hb⟩
  | bad er a => obtain ⟨rfl, hb⟩ := h; exact ⟨_, _, _, _, _, _, rfl, hb⟩
end Go.Proofs.YtjbccmnmcjmooaaDoor
