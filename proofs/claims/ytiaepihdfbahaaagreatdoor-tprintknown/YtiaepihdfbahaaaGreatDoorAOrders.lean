/- Texts: empty or not, cut, the first of them. -/
import Derived.Test.YtiaepihdfbahaaaGreatDoorABase
import Derived.Test.YtiaepihdfbahaaaGreatDoorAMathDecAll
import Derived.Lib.Strings
import Derived.Deep.QuietTactic
import Derived.BigQuiet
import Derived.StillTail
import Derived.OrdersHeld
import Derived.Deep.RegionHeld
/- tlex.hasShape, count, daysOf: walked. -/
namespace Go.Proofs.YtiaepihdfbahaaaGreatDoor
open Go.RowKit

theorem emp_yes (d : ByteArray) (h : d.data.toList = []) : d.toList.isEmpty = true := by rw [Lib.toList_data, h]; rfl
theorem emp_no (d : ByteArray) (h : ¬ d.data.toList = []) : d.toList.isEmpty = false := by
  rw [Lib.toList_data]; cases hd : d.data.toList with
  | nil => exact absurd hd h
  | cons => rfl
theorem emp_size (d : ByteArray) (h : ¬ d.data.toList = []) : 0 < d.size := by
  have := size_list d
  cases hd : d.data.toList with
  | nil => exact absurd hd h
  | cons a l => rw [hd] at this; simp at this; omega
theorem results_tmp5 {fn : Func} {t u v x y : Tmp} (h : fn.results = #[.tmp t, .tmp u, .tmp v, .tmp x, .tmp y]) (tmps : Array Value) (P : Program) (w : World) :
    (results fn tmps).run P w = .ok (.tuple #[tmps.getD t undef, tmps.getD u undef, tmps.getD v undef, tmps.getD x undef, tmps.getD y undef]) w := by
  simp [results, h]
theorem cut_list (s : ByteArray) (n : Nat) : (s.extract 0 n).data.toList = s.data.toList.take n := by simp
theorem first_is (u : ByteArray) (n : Nat) (h : (u.data.toList.getD 0 0).toNat = n) (h0 : n ≠ 0) : ¬ u.data.toList = [] := by
  intro hc; rw [hc] at h; apply h0; rw [← h]; rfl
end Go.Proofs.YtiaepihdfbahaaaGreatDoor
namespace Go.Proofs.YtiaepihdfbahaaaGreatDoor
open Go.RowKit

theorem in_ten (b : UInt8) : inT [48, 49, 50, 51, 52, 53, 54, 55, 56, 57] b = dgI b := byte_eq _ _ (by decide +kernel) b
theorem tamong_ten (b : UInt8) (w : World) :
    Calls Tryz.prog 60 #[.string ⟨#[48, 49, 50, 51, 52, 53, 54, 55, 56, 57]⟩, .int .u8 (b.toNat : Int)] w fun e w' => e = .returned (.bool (dgI b)) ∧ w' = w :=
  tamong_of _ dgI in_ten b w
/-- a digit where a shape has a 0, else alike -/
def shI (b c : UInt8) : Bool := if c.toNat = 48 then dgI b else decide (c.toNat = b.toNat)
def shp : List UInt8 → List UInt8 → Bool
  | [], [] => true
  | b :: l, c :: s => shI b c && shp l s
  | _, _ => false
theorem shp_len : ∀ {l s : List UInt8}, l.length ≠ s.length → shp l s = false
  | [], [], h => absurd rfl h
  | [], _ :: _, _ => rfl
  | _ :: _, [], _ => rfl
  | b :: l, c :: s, h => by
    rw [shp, shp_len (l := l) (s := s) (by simpa using h), Bool.and_false]
theorem shp_all : ∀ {l s : List UInt8}, l.length = s.length → (∀ (k : Nat) b c, l[k]? = some b → s[k]? = some c → shI b c = true) → shp l s = true
  | [], [], _, _ => rfl
  | [], _ :: _, h, _ => by simp at h
  | _ :: _, [], h, _ => by simp at h
  | b :: l, c :: s, h, H => by
    rw [shp, H 0 b c rfl rfl, shp_all (by simpa using h) (fun k b c h1 h2 => H (k + 1) b c h1 h2)]; rfl
theorem shp_no : ∀ {l s : List UInt8} (k : Nat) (b c : UInt8), l[k]? = some b → s[k]? = some c → shI b c = false → shp l s = false
  | [], _, k, _, _, h, _, _ => by simp at h
  | _ :: _, [], k, _, _, _, h, _ => by simp at h
  | b :: l, c :: s, 0, x, y, h1, h2, h => by
    cases h1; cases h2
    rw [shp, h]; rfl
  | b :: l, c :: s, k + 1, x, y, h1, h2, h => by
    rw [shp, shp_no k x y h1 h2 h, Bool.and_false]
theorem drew_more {w wr : World} {m : Nat} (h : ∃ n, wr = w.drewN n) : ∃ n, wr.drewN m = w.drewN n := by
  obtain ⟨n, rfl⟩ := h
  exact ⟨n + m, by rw [World.drewN_drewN]⟩
theorem at_some (s : ByteArray) (k : Nat) (h : k < s.size) : s.data.toList[k]? = some s[k] := by
  rw [List.getElem?_eq_getElem (by rw [size_list]; exact h)]; rfl
set_option maxRecDepth 100000 in
set_option maxHeartbeats 1000000 in
theorem tshape_any (s sh : ByteArray) (w : World) (hs : s.size ≤ 1000000) :
    Calls Tryz.prog 89 #[.string s, .string sh] w fun e w' => e = .returned (.bool (shp s.data.toList sh.data.toList)) ∧ ∃ n, w' = w.drewN n := by
  have HZ := hid (size_list s)
  have HZ2 := hid (size_list sh)
  by_cases hl : s.size = sh.size
  · have HL := hid hl
    have g : ((s.size : Int) != (sh.size : Int)) = false := by rw [bne_eq_false_iff_eq]; omega
    have HNO := hid (fun k b c => shp_no (l := s.data.toList) (s := sh.data.toList) k b c)
    have HALL := hid (shp_all (l := s.data.toList) (s := sh.data.toList) (by rw [HZ.out, HZ2.out]; exact hl))
    obtain ⟨R, hR⟩ : ∃ R, shp s.data.toList sh.data.toList = R := ⟨_, rfl⟩
    rw [hR] at HNO HALL ⊢
    clear hR hl
    have HC := hid (fun b X => tamong_ten b X)
    go_enter Tryz.func89, Tryz.ntmps89
    go_wp2_with fail
    go_loopw [13] (fun x wr => ∃ k : Nat, k ≤ s.size ∧ x = .int .i64 (k : Int) ∧ Hid (∃ n, wr = w.drewN n) ∧ Hid (∀ (j : Nat) b c, j < k → s.data.toList[j]? = some b → sh.data.toList[j]? = some c → shI b c = true)) (fun x _ => s.size - (intOf x).toNat)
    case atStart => exact ⟨0, Nat.zero_le _, rfl, ⟨0, rfl⟩, fun j b c h => absurd h (Nat.not_lt_zero _)⟩
    case round =>
      obtain ⟨k, hk, rfl, HW, HJ⟩ := hrel
      by_cases hlt : k < s.size
      · have hlt2 : k < sh.size := by have := HL.out; omega
        have A1 := hid (at_some s k hlt)
        have A2 := hid (at_some sh k hlt2)
        have hb1 := s[k].toNat_lt
        have hb2 := sh[k].toNat_lt
        have HX := hid (HNO.out k s[k] sh[k] A1.out A2.out)
        have HK : Hid (shI s[k] sh[k] = true → ∀ (j : Nat) b c, j < k + 1 → s.data.toList[j]? = some b → sh.data.toList[j]? = some c → shI b c = true) := fun h j b c hj h1 h2 => by
          by_cases e : j = k
          · subst e; rw [A1.out] at h1; rw [A2.out] at h2; cases h1; cases h2; exact h
          · exact HJ.out j b c (by omega) h1 h2
        have CC := hid (HC.out s[k])
        by_cases h48 : sh[k].toNat = 48
        · have HI : Hid (shI s[k] sh[k] = dgI s[k]) := by
            show _ = _
            unfold shI; rw [if_pos h48]
          rw [HI.out] at HX HK
          have g1 : ((sh[k].toNat : Int) == 48) = true := by rw [beq_iff_eq]; omega
          have g2 : ((sh[k].toNat : Int) != 48) = false := by rw [bne_eq_false_iff_eq]; omega
          clear h48 HI
          cases hd : dgI s[k] with
          | true =>
            rw [hd] at CC HX HK
            have HK2 := hid (HK.out rfl)
            clear HX HK hd A1 A2
            have hlt3 : k < sh.size := hlt2
            have hlt4 : k < s.size := hlt
            go_wp2_with fail
            go_quiet ((go_at_call 60; exact Calls.quiet_of_same (CC.out _)))
            go_wp2_with fail
            go_round
            case rel => exact ⟨k + 1, by omega, val_int (by omega), drew_more HW.out, HK2.out⟩
            case measure => simp [intOf]; omega
          | false =>
            rw [hd] at CC HX HK
            have HX2 := hid (HX.out rfl)
            clear HX HK hd A1 A2
            have hlt3 : k < sh.size := hlt2
            have hlt4 : k < s.size := hlt
            go_wp2_with fail
            go_quiet ((go_at_call 60; exact Calls.quiet_of_same (CC.out _)))
            go_wp2_with fail
            go_ret
            exact ⟨ret_bool HX2.out.symm, drew_more HW.out⟩
        · have HI : Hid (shI s[k] sh[k] = decide (sh[k].toNat = s[k].toNat)) := by
            show _ = _
            unfold shI; rw [if_neg h48]
          rw [HI.out] at HX HK
          have g1 : ((sh[k].toNat : Int) == 48) = false := by rw [beq_eq_false_iff_ne]; omega
          have g2 : ((sh[k].toNat : Int) != 48) = true := by rw [bne_iff_ne]; omega
          clear h48 HI CC
          by_cases he : sh[k].toNat = s[k].toNat
          · have g3 : ((sh[k].toNat : Int) != (s[k].toNat : Int)) = false := by rw [bne_eq_false_iff_eq]; omega
            have HK2 := hid (HK.out (decide_eq_true he))
            clear HX HK A1 A2 he
            have hlt3 : k < sh.size := hlt2
            have hlt4 : k < s.size := hlt
            go_wp2_with fail
            go_quiet (fail)
            go_wp2_with fail
            go_round
            case rel => exact ⟨k + 1, by omega, val_int (by omega), drew_more HW.out, HK2.out⟩
            case measure => simp [intOf]; omega
          · have g3 : ((sh[k].toNat : Int) != (s[k].toNat : Int)) = true := by rw [bne_iff_ne]; omega
            have HX2 := hid (HX.out (decide_eq_false he))
            clear HX HK A1 A2 he
            have hlt3 : k < sh.size := hlt2
            have hlt4 : k < s.size := hlt
            go_wp2_with fail
            go_quiet (fail)
            go_wp2_with fail
            go_ret
            exact ⟨ret_bool HX2.out.symm, drew_more HW.out⟩
      · have HE := hid (HALL.out (fun j b c h1 h2 => HJ.out j b c (by have := (List.getElem?_eq_some_iff.1 h1).1; rw [HZ.out] at this; omega) h1 h2))
        go_wp2_with fail
        go_ret
        exact ⟨ret_bool HE.out.symm, HW.out⟩
  · have g : ((s.size : Int) != (sh.size : Int)) = true := by rw [bne_iff_ne]; omega
    have HE := hid (shp_len (l := s.data.toList) (s := sh.data.toList) (by rw [HZ.out, HZ2.out]; exact hl))
    go_enter Tryz.func89, Tryz.ntmps89
    go_wp2_with fail
    go_ret
    exact ⟨ret_bool HE.out.symm, 0, rfl⟩
set_option maxRecDepth 100000 in
set_option maxHeartbeats 1000000 in
theorem tcount_any (s : ByteArray) (w : World) (hs : s.size ≤ 4) (hd : ∀ b ∈ s.data.toList, dgI b = true) :
    Calls Tryz.prog 90 #[.string s] w fun e w' => e = .returned (.int .i64 (pval s.data.toList : Nat)) ∧ Below w.heap.size w w' := by
  have HZ := hid (size_list s)
  have HDD := hid hd
  clear hd
  have hcv := run_bytes_of_string (P := Tryz.prog) w 9 39 5 s Tryz.underlying9 Tryz.underlying39 Tryz.underlying5
  go_enter Tryz.func90, Tryz.ntmps90
  go_upto_region 2 with fail
  go_cut [7, 8, 9] (fun a b c wx => ∃ cap, a = .slice (some ⟨w.heap.size, 0, none⟩) s.size cap ∧ b = .int .i64 s.size ∧ c = .int .i64 0 ∧ s.size ≤ cap ∧ Hid (∀ k (h : k < s.size), wx.cell? ⟨w.heap.size, k, none⟩ = some (.int .u8 (s[k].toNat : Int))) ∧ Hid (Below w.heap.size w wx))
  case first =>
    go_wp2_with fail
    go_meet
    exact ⟨_, rfl, rfl, rfl, grownCap_ge _ _ _ _, (show ∀ k (h : k < s.size), _ = _ from fun k hk => ebrow_at s k (w.drewN 1) _ _ _ hk), (Below.refl _ _).drew.alloc (by simp) _⟩
  case rest =>
  obtain ⟨cap, rfl, rfl, rfl, hcap, HC, HW⟩ := hcut
  clear hcv
  go_wp2_with fail
  go_loop [3, 9] (fun v i => ∃ j n : Nat, j ≤ s.size ∧ i = .int .i64 j ∧ v = .int .i64 (n : Int) ∧ Hid (n = pval (s.data.toList.take j)) ∧ Hid (n < 10 ^ j)) (fun _ i => s.size - (intOf i).toNat)
  case atStart => exact ⟨0, 0, Nat.zero_le _, rfl, rfl, rfl, (show 0 < 10 ^ 0 by decide)⟩
  case round =>
    obtain ⟨j, n, hj, rfl, rfl, HN, HP⟩ := hrel
    by_cases hlt : j < s.size
    · have hcell := HC.out j hlt
      have hdj : dgI s[j] = true := HDD.out s[j] (List.mem_of_getElem? (at_some s j hlt))
      have hb : 48 ≤ s[j].toNat ∧ s[j].toNat ≤ 57 := by unfold dgI at hdj; simpa using hdj
      obtain ⟨hb1, hb2⟩ := hb
      have HN2 := hid (show n * 10 + (s[j].toNat - 48) = pval (s.data.toList.take (j + 1)) by
        rw [take_snoc s j hlt, pval_snoc, if_pos (by unfold isD; simp; omega), ← HN.out]; omega)
      have hn : n < 1000 := by
        have h3 : j ≤ 3 := by omega
        have := HP.out
        have h4 : 10 ^ j ≤ 10 ^ 3 := Nat.pow_le_pow_right (by decide) h3
        omega
      have HP2 := hid (show n * 10 + (s[j].toNat - 48) < 10 ^ (j + 1) by have := HP.out; rw [Nat.pow_succ]; omega)
      clear hdj HN HP
      go_wp2_with fail
      go_round
      case rel => exact ⟨j + 1, n * 10 + (s[j].toNat - 48), hlt, val_int (by omega), val_int (by omega), HN2.out, HP2.out⟩
      case measure => simp [intOf]; omega
    · have HE := hid (show n = pval s.data.toList by have := HN.out; rw [List.take_of_length_le (by rw [HZ.out]; omega)] at this; exact this)
      go_wp2_with fail
      go_ret
      exact ⟨ret_int (by rw [HE.out]), HW.out⟩
theorem dim_le (y m : Nat) : dim y m ≤ 31 := by unfold dim; (repeat' split) <;> omega
set_option maxRecDepth 100000 in
set_option maxHeartbeats 1000000 in
theorem tdays_any (y m : Nat) (w : World) (hy : y ≤ 9999) :
    Calls Tryz.prog 91 #[.int .i64 (y : Int), .int .i64 (m : Int)] w fun e w' => e = .returned (.int .i64 (dim y m : Nat)) ∧ w' = w := by
  obtain ⟨a, ha⟩ : ∃ a : Nat, y % 4 = a := ⟨_, rfl⟩
  obtain ⟨b, hb⟩ : ∃ b : Nat, y % 100 = b := ⟨_, rfl⟩
  obtain ⟨c, hc⟩ : ∃ c : Nat, y % 400 = c := ⟨_, rfl⟩
  have HD : Hid (dim y m = if m = 4 ∨ m = 6 ∨ m = 9 ∨ m = 11 then 30 else if m = 2 then (if (a = 0 ∧ b ≠ 0) ∨ c = 0 then 29 else 28) else 31) := by
    show _ = _
    unfold dim; rw [ha, hb, hc]
  go_enter Tryz.func91, Tryz.ntmps91
  go_wp2
  all_goals (go_ret; refine ⟨ret_int ?_, rfl⟩; rw [HD.out])
  all_goals (try simp only [beq_iff_eq, beq_eq_false_iff_ne] at *)
  all_goals (have HD := 0; (repeat' split) <;> omega)
end Go.Proofs.YtiaepihdfbahaaaGreatDoor
/- A region that draws its order and whose callees make memory but change none that was there: one walk serves every order, in the class of the worlds above. -/
/- A region that draws its order and whose last operation waits for all others: the others in whatever order, then the last. -/
/- A region that draws its order, of which a beginning has but one order. -/
/- A region that draws its order and is quiet from a point on: the check of its order over the list alone. -/
namespace Go.Proofs.YtiaepihdfbahaaaGreatDoor
open Go.RowKit

/-- the worlds in which all that was there is as it was -/
structure Abv (w : World) where
  u : World
  h : Below w.heap.size w u
theorem abv_some (w : World) : Nonempty (Abv w) := ⟨⟨w, Below.refl _ _⟩⟩
theorem wp_region_above {P : Program} {id : Nat} {Q : Exit → Act → World → Prop} {a : Act} {w : World} {l : List Oper} (hm : P.follows .mixedOrders = true) (hB : Region.lexB .any l.toArray = true)
    (h : wpQuiet P l.toArray (fun w' => ∃ x : Abv w, w' = x.u) (fun a' => ∀ w', (∃ x : Abv w, w' = x.u) → Q .normal a' w') l a) : (Code.region id l.toArray true).wp P Q a w :=
  wp_region_quiet (C := fun w' => ∃ x : Abv w, w' = x.u) hm hB ⟨⟨w.drew, (Below.refl _ _).drew⟩, rfl⟩ (by simpa using h)
theorem above_of {P : Program} {f : FuncId} {args : Array Value} {w : World} {x : Abv w} {v : Value}
    (h : Calls P f args x.u fun e w' => e = .returned v ∧ Below x.u.heap.size x.u w') : Calls P f args x.u fun e w'' => e = .returned v ∧ ∃ y : Abv w, w'' = y.u :=
  h.mono fun _ w' ⟨he, hb⟩ => ⟨he, ⟨w', x.h.trans (hb.mono x.h.size)⟩, rfl⟩
theorem above_cell {w : World} {a : Addr} {v : Value} (h : w.cell? a = some v) (x : Abv w) : x.u.cell? a = some v := by
  rw [x.h.cell (World.block_lt_of_cell? w a h)]; exact h
end Go.Proofs.YtiaepihdfbahaaaGreatDoor
namespace Go.Proofs.YtiaepihdfbahaaaGreatDoor
open Go.RowKit

section
variable {P : Program} {Q : Exit → Act → World → Prop} {md : Region.Mode}

/-- behind the others comes the last -/
def lastQ (P : Program) (o : Oper) (Q : Exit → Act → World → Prop) : Exit → Act → World → Prop
  | .normal, a, w => o.wp P a w (Q .normal) Q
  | .panic c, a, w => Q (.panic c) a w
  | .outgrown, a, w => Q .outgrown a w
  | .exit i, a, w => Q (.exit i) a w
  | .goto i, a, w => Q (.goto i) a w
  | .ret, a, w => Q .ret a w
/-- two accounts of what has come up, with and without the last -/
structure Both (n : Nat) (listed listedF : Array Bool) : Prop where
  s1 : listed.size = n
  s2 : listedF.size = n + 1
  at_ : ∀ j, j < n → listedF[j]? = listed[j]?
  last : listedF[n]? = some false
theorem Both.set {n : Nat} {listed listedF : Array Bool} (h : Both n listed listedF) {i : Nat} (hi : i < n) : Both n (listed.setIfInBounds i true) (listedF.setIfInBounds i true) := by
  refine ⟨by simpa using h.s1, by simpa using h.s2, fun j hj => ?_, ?_⟩
  · rw [Array.getElem?_setIfInBounds, Array.getElem?_setIfInBounds, h.at_ j hj]
    by_cases e : i = j
    · rw [if_pos e, if_pos e, if_pos (by rw [h.s2]; omega), if_pos (by rw [h.s1]; omega)]
    · rw [if_neg e, if_neg e]
  · rw [Array.getElem?_setIfInBounds, if_neg (by omega)]; exact h.last
/-- one that only reads, taken first -/
theorem take_h {i : Nat} {oi : Oper} {v : Value} {fuel : Nat} {listed : Array Bool} {a : Act} {w : World} {l : List Oper} {S : World → Prop} (hi : l[i]? = some oi)
    (hs : Region.noSelect l.toArray = true) (hf : Region.free md l.toArray listed i = true) (hr : (Region.ready md l.toArray listed).contains i = true)
    (hQ : ∀ c a w, Q (.panic c) (a.put oi.dst v) w → Q (.panic c) a w) (hw : Region.wanted oi (yielded l.toArray a.tmps) = true) (hy : ∀ X, S X → (execOp a.eval oi).run P X = .ok (.value v) X) (hS : S w)
    (h : wpAnyH P md l.toArray Q S fuel (listed.setIfInBounds i true) (a.put oi.dst v) w) : wpAnyH P md l.toArray Q S (fuel + 1) listed a w :=
  wpAnyH_take (by rw [List.getElem?_toArray]; exact hi) hs hf hr hQ (Or.inl ⟨hw, hy⟩) hS h
/-- the one that may come up now -/
theorem step_h {i : Nat} {oi : Oper} {fuel : Nat} {listed : Array Bool} {a : Act} {w : World} {l : List Oper} {S : World → Prop} (hi : l[i]? = some oi) (hr : Region.ready md l.toArray listed = [i])
    (h : ∀ K : Act → World → Prop, Shut (∀ a w, S w → (S w → wpAnyH P md l.toArray Q S fuel (listed.setIfInBounds i true) a w) → K a w) → if Region.wanted oi (yielded l.toArray a.tmps) = true then Oper.wp P oi a w K Q else K (a.put oi.dst undef) w) : wpAnyH P md l.toArray Q S (fuel + 1) listed a w :=
  wpAnyH_ready hr (by simp) (AllReadyH.cons (by rw [List.getElem?_toArray]; exact hi) h AllReadyH.nil)
end
end Go.Proofs.YtiaepihdfbahaaaGreatDoor
namespace Go.Proofs.YtiaepihdfbahaaaGreatDoor
open Go.RowKit

section
variable {P : Program} {md : Region.Mode} {C : World → Prop}
/-- one after the other up to n, and nothing else before -/
def rowOk (md : Region.Mode) (n k : Nat) (o : Oper) : Bool :=
  if k < n then o.after.all (fun e => !Region.binds md e || decide (e.on < k)) && (decide (k = 0) || o.after.any (fun e => Region.binds md e && decide (e.on + 1 = k)))
  else o.after.any (fun e => Region.binds md e && decide (n ≤ e.on + 1))
def rowL (md : Region.Mode) (n : Nat) : Nat → List Oper → Bool
  | _, [] => true
  | k, o :: r => rowOk md n k o && rowL md n (k + 1) r
/-- the first k have come up -/
def FirstK (listed : Array Bool) (m k : Nat) : Prop := listed.size = m ∧ ∀ j, j < m → listed[j]? = some (decide (j < k))
theorem FirstK.next {listed : Array Bool} {m k : Nat} (h : FirstK listed m k) : FirstK (listed.setIfInBounds k true) m (k + 1) := by
  refine ⟨by simpa using h.1, fun j hj => ?_⟩
  rw [Array.getElem?_setIfInBounds]
  split
  · next e => subst e; rw [if_pos (by rw [h.1]; exact hj)]; simp
  · next e => rw [h.2 j hj]; congr 1; rw [decide_eq_decide]; omega
theorem FirstK.below {listed : Array Bool} {m k i : Nat} (h : FirstK listed m k) (hi : listed.getD i false = true) : i < k := by
  rcases Nat.lt_or_ge i m with hm | hm
  · have := h.2 i hm
    simp [Array.getD_eq_getD_getElem?, this] at hi
    exact hi
  · simp [Array.getD_eq_getD_getElem?, Array.getElem?_eq_none (show listed.size ≤ i by rw [h.1]; exact hm)] at hi
theorem FirstK.out {listed : Array Bool} {m k : Nat} (h : FirstK listed m k) (hm : k < m) : listed.getD k true = false := by
  have := h.2 k hm
  simp [Array.getD_eq_getD_getElem?, this]
end
end Go.Proofs.YtiaepihdfbahaaaGreatDoor
namespace Go.Proofs.YtiaepihdfbahaaaGreatDoor
open Go.RowKit

section
variable {P : Program} {md : Region.Mode} {C : World → Prop}
/-- what comes up in the order of the text may do so -/
def lexL (md : Region.Mode) (ops : Array Oper) : Nat → List Oper → Bool
  | _, [] => true
  | k, o :: r => o.after.all (fun e => !Region.binds md e || decide (e.on < k)) && r.all (fun oj => oj.after.any (fun e => Region.binds md e && e.on == k) || o.apart ops oj) && lexL md ops (k + 1) r
theorem wp_region_h {id : Nat} {Q : Exit → Act → World → Prop} {a : Act} {w : World} {l : List Oper} {S : World → Prop} (n : Nat) (hm : P.follows .mixedOrders = true) (hn : l.length = n)
    (h : wpAnyH P .any l.toArray Q S n (Array.replicate n false) a w.drew) : (Code.region id l.toArray true).wp P Q a w := by
  subst hn
  refine wp_region_any hm ?_
  have := wpAny_of_held _ _ _ _ h
  simpa using this
end
end Go.Proofs.YtiaepihdfbahaaaGreatDoor
