/- The document's side: a path read from its text. -/
import Derived.Test.YtjffhjdjoankcaaGreatDoorRef5C
import Derived.Test.YtjffhjdjoankcaaGreatDoorPathDoc
namespace Go.Proofs.YtjffhjdjoankcaaGreatDoor
open Go.RowKit

/-- nothing, or with a stroke ahead -/
def Hd (l : List UInt8) : Prop := l = [] ∨ ∃ r, l = 47 :: r
theorem hd_text (p : List PStep) : Hd (textP p) := by
  cases p with
  | nil => exact Or.inl rfl
  | cons s p => exact Or.inr ⟨stepT s ++ textP p, rfl⟩
theorem cut_one : ∀ {a c b d : List UInt8}, (47 : UInt8) ∉ a → (47 : UInt8) ∉ c → Hd b → Hd d → a ++ b = c ++ d → a = c ∧ b = d
  | [], [], b, d, _, _, _, _, h => ⟨rfl, h⟩
  | [], x :: c, b, d, _, hc, hb, _, h => by
    rcases hb with rfl | ⟨r, rfl⟩
    · simp at h
    · simp only [List.nil_append, List.cons_append] at h
      injection h with h1 h2
      exact absurd (show (47 : UInt8) ∈ x :: c by rw [h1]; simp) hc
  | x :: a, [], b, d, ha, _, _, hd, h => by
    rcases hd with rfl | ⟨r, rfl⟩
    · simp at h
    · simp only [List.nil_append, List.cons_append] at h
      injection h with h1 h2
      exact absurd (show (47 : UInt8) ∈ x :: a by rw [h1]; simp) ha
  | x :: a, y :: c, b, d, ha, hc, hb, hd, h => by
    simp only [List.cons_append] at h
    injection h with h1 h2
    obtain ⟨e1, e2⟩ := cut_one (fun hm => ha (by simp [hm])) (fun hm => hc (by simp [hm])) hb hd h2
    exact ⟨by rw [h1, e1], e2⟩
theorem dk_len : ∀ (l : List UInt8) (k : List UInt8), dk l = some k → k.length ≤ l.length
  | [], k, h => by simp [dk] at h; subst h; simp
  | [b], k, h => by
    rw [dk] at h
    split at h
    · cases h
    · injection h with h; subst h; simp
  | b :: c :: r, k, h => by
    rw [dk] at h
    split at h
    · split at h
      · obtain ⟨m, hm, rfl⟩ := Option.map_eq_some_iff.1 h
        have := dk_len r m hm
        simp; omega
      · split at h
        · obtain ⟨m, hm, rfl⟩ := Option.map_eq_some_iff.1 h
          have := dk_len r m hm
          simp; omega
        · cases h
    · obtain ⟨m, hm, rfl⟩ := Option.map_eq_some_iff.1 h
      have := dk_len (c :: r) m hm
      simp at this ⊢; omega
theorem step5_small {l : List UInt8} {s : PStep} (h : step5 l = some s) (hl : l.length ≤ 1000000) : Small s := by
  unfold step5 at h
  split at h
  · split at h
    · injection h with h
      subst h
      rename_i hc
      exact ⟨Nat.zero_le _, by simp only; omega, by simp only; omega⟩
    · cases h
  · obtain ⟨k, hk, rfl⟩ := Option.map_eq_some_iff.1 h
    have h1 := dk_len _ _ hk
    have h2 := trim_len l [126, 107]
    exact ⟨by rw [← size_list, mkS_list]; omega, by simp, by simp⟩
/-- what may still be read: whatever path has the whole text goes on with a path of the rest -/
def Rest (S : List UInt8) (l : List PStep) (u : List UInt8) : Prop := ∀ p : List PStep, (∀ s ∈ p, Frm s) → textP p = S → ∃ p', p = l ++ p' ∧ textP p' = u
theorem rest_start (S : List UInt8) : Rest S [] S := fun p _ h => ⟨p, rfl, h⟩
theorem rest_bad {S : List UInt8} {l : List PStep} {b : UInt8} {u : List UInt8} (h : Rest S l (b :: u)) (hb : ¬ b = 47) (p : List PStep) (hf : ∀ s ∈ p, Frm s) : textP p ≠ S := by
  intro e
  obtain ⟨p', -, h2⟩ := h p hf e
  rcases hd_text p' with h3 | ⟨r, h3⟩
  · rw [h3] at h2; cases h2
  · rw [h3] at h2; injection h2 with h2; exact hb h2.symm
theorem rest_piece {S : List UInt8} {l : List PStep} {a b : List UInt8} (h : Rest S l (47 :: (a ++ b))) (ha : (47 : UInt8) ∉ a) (hb : Hd b) (p : List PStep) (hf : ∀ s ∈ p, Frm s) (e : textP p = S) : ∃ st p'', p = l ++ (st :: p'') ∧ stepT st = a ∧ textP p'' = b ∧ Frm st := by
  obtain ⟨p', h1, h2⟩ := h p hf e
  cases p' with
  | nil => simp [textP] at h2
  | cons st p'' =>
    have e2 : textP (st :: p'') = 47 :: (stepT st ++ textP p'') := rfl
    rw [e2] at h2
    injection h2 with _ h2
    have hst : Frm st := hf st (by rw [h1]; simp)
    obtain ⟨q1, q2⟩ := cut_one (step_no hst) ha (hd_text p'') hb h2
    exact ⟨st, p'', h1, q1, q2, hst⟩
theorem rest_no {S : List UInt8} {l : List PStep} {a b : List UInt8} (h : Rest S l (47 :: (a ++ b))) (ha : (47 : UInt8) ∉ a) (hb : Hd b) (hn : step5 a = none) (p : List PStep) (hf : ∀ s ∈ p, Frm s) : textP p ≠ S := by
  intro e
  obtain ⟨st, p'', -, h2, -, h4⟩ := rest_piece h ha hb p hf e
  have := step5_text h4
  rw [h2, hn] at this; cases this
theorem rest_next {S : List UInt8} {l : List PStep} {a b : List UInt8} {x : PStep} (h : Rest S l (47 :: (a ++ b))) (ha : (47 : UInt8) ∉ a) (hb : Hd b) (hx : step5 a = some x) : Rest S (l ++ [x]) b := by
  intro p hf e
  obtain ⟨st, p'', h1, h2, h3, h4⟩ := rest_piece h ha hb p hf e
  have := step5_text h4
  rw [h2, hx] at this
  injection this with this
  subst this
  exact ⟨p'', by rw [h1]; simp, h3⟩
theorem rest_end {S : List UInt8} {l : List PStep} (h : Rest S l []) (hn : ¬ textP l = S) (p : List PStep) (hf : ∀ s ∈ p, Frm s) : textP p ≠ S := by
  intro e
  obtain ⟨p', h1, h2⟩ := h p hf e
  cases p' with
  | nil => apply hn; rw [← e, h1]; simp
  | cons st p'' => simp [textP] at h2
theorem own_sl {w : World} {B : Nat} {e : TypeId} {k n : Nat} {v : Value} {xs : List Value} (h : w.ownsRow B e k v n xs) : ∃ o c, v = .slice o n c := by
  rcases h with ⟨-, ⟨rfl, rfl⟩ | ⟨g, cap, cur, rfl, -⟩⟩
  · exact ⟨none, 0, rfl⟩
  · exact ⟨_, _, rfl⟩
def Parse5 (S : List UInt8) (e : Ending) (w' : World) : Prop := ∃ v ok, e = .returned (.tuple #[v, .bool ok]) ∧ (if ok = true then ∃ l, InP w' l v ∧ textP l = S ∧ ∀ s ∈ l, Frm s else (∀ p : List PStep, (∀ s ∈ p, Frm s) → textP p ≠ S))
set_option maxRecDepth 100000 in
set_option maxHeartbeats 4000000 in
theorem parse5_any (s : ByteArray) (w : World) (hs : s.size ≤ 100000) :
    Calls Tryz.prog 19 #[.string s] w fun e w' => Parse5 s.data.toList e w' ∧ Below w.heap.size w w' := by
  obtain ⟨i1, hi', hz0', hz1', hz2'⟩ := info_parts Tryz.infoStep
  obtain ⟨S, hS⟩ : ∃ S, s.data.toList = S := ⟨_, rfl⟩
  rw [hS]
  go_enter Tryz.func19, Tryz.ntmps19
  go_wp2_with fail
  go_loopw [0, 4] (fun v0 v4 wr => ∃ (u : ByteArray) (l : List PStep), v0 = .string u ∧ l.length + u.size ≤ s.size ∧ Hid (Rest S l u.data.toList) ∧ Hid (wr.ownsRow w.heap.size 79 3 v4 l.length (l.flatMap sc)) ∧ Hid (∀ x ∈ l, Frm x ∧ Small x) ∧ Hid (Below w.heap.size w wr)) (fun v0 _ _ => match v0 with | .string u => u.size | _ => 0)
  case atStart => exact ⟨s, [], rfl, by simp, hid (by rw [hS]; exact rest_start S), hid (World.ownsRow_nil _ _ _ _), hid (by simp), Below.refl _ _⟩
  case round =>
    obtain ⟨u, l, rfl, hlu, HR, HO, HF, HBW⟩ := hrel
    obtain ⟨o4, c4, rfl⟩ := own_sl HO.out
    by_cases h0 : u.size = 0
    · have hu0 : u = ⟨#[]⟩ := by
        have : u.data.toList = [] := List.eq_nil_of_length_eq_zero (by rw [size_list]; exact h0)
        rw [mkS_of u _ rfl, this]; rfl
      subst hu0
      have HI := hid (own_inp (w := wr) (p := l) HO.out (fun x hx => by have := (HF.out x hx).2.1; unfold maxLen; omega))
      have CT := hid (fun X (hX : Below wr.heap.size wr X) => t5_any l _ X (HI.out.onto hX) (fun x hx => (HF.out x hx).1) (fun x hx => (HF.out x hx).2) (by omega))
      by_cases ht : textP l = S
      · have hms : mkS (textP l) = s := by rw [ht, ← hS]; exact (mkS_of s _ rfl).symm
        rw [hms] at CT
        go_wp2_with (go_at_call 20; go_must (refine (CT.out _ (Below.refl _ _)).mono ?_; rintro e w1 ⟨rfl, hb1⟩))
        go_ret2
        exact ⟨⟨_, true, rfl, l, HI.out.onto hb1, ht, fun x hx => (HF.out x hx).1⟩, vonto HBW.out hb1⟩
      · have hne : ((mkS (textP l)).toList == s.toList) = false := by
          rw [beq_eq_false_iff_ne, Lib.toList_data, Lib.toList_data, mkS_list, hS]; exact ht
        have HN := hid (rest_end HR.out ht)
        generalize mkS (textP l) = m at CT hne
        go_wp2_with (go_at_call 20; go_must (refine (CT.out _ (Below.refl _ _)).mono ?_; rintro e w1 ⟨rfl, hb1⟩))
        go_ret2
        exact ⟨⟨_, false, rfl, HN.out⟩, vonto HBW.out hb1⟩
    · have hp : 0 < u.size := by omega
      have hem : u.toList.isEmpty = false := by
        rw [Lib.toList_data, List.isEmpty_eq_false_iff]
        intro hc
        have := congrArg List.length hc
        rw [size_list] at this
        exact h0 (by simpa using this)
      have hn0 : ¬ u.toList = [] := by intro hc; rw [hc] at hem; cases hem
      have HC := hid (show u.data.toList = u[0] :: u.data.toList.drop 1 from (List.drop_eq_getElem_cons (i := 0) (by rw [size_list]; exact hp)))
      by_cases h47 : u[0] = 47
      · have hb : u[0].toNat = 47 := by rw [h47]; rfl
        have HU := hid (show (u.extract 1 u.size).data.toList = u.data.toList.drop 1 from Lib.extract_to_end u 1)
        have hus : (u.extract 1 u.size).size + 1 ≤ u.size := by simp; omega
        have HR1 : Hid (Rest S l (47 :: (u.extract 1 u.size).data.toList)) := hid (by rw [HU.out, ← h47, ← HC.out]; exact HR.out)
        clear HU HC HR h47
        generalize hue : u.extract 1 u.size = u1 at hus HR1
        go_wp2_with fail
        go_loop [6] (fun i => ∃ n : Nat, n ≤ u1.size ∧ i = .int .i64 n ∧ Hid (∀ k, (hk : k < u1.size) → k < n → ¬ u1[k] = 47)) (fun i => u1.size - (intOf i).toNat)
        case atStart => exact ⟨0, Nat.zero_le _, rfl, hid (fun k hk h => absurd h (Nat.not_lt_zero _))⟩
        case round =>
          obtain ⟨n, hn, rfl, HN⟩ := hrel
          by_cases hgo : ∃ hlt : n < u1.size, ¬ u1[n] = 47
          · obtain ⟨hlt, h7⟩ := hgo
            have hb7 : ¬ u1[n].toNat = 47 := fun h => h7 (UInt8.toNat_inj.1 h)
            have hb8 : ((u1[n].toNat : Int) != 47) = true := by simp; omega
            have HN2 : Hid (∀ k, (hk : k < u1.size) → k < n + 1 → ¬ u1[k] = 47) := hid (fun k hk hkn => by
              by_cases e : k = n
              · subst e; exact h7
              · exact HN.out k hk (by omega))
            clear HN
            go_wp2_with fail
            go_round
            case rel => exact ⟨n + 1, hlt, by go_num, HN2⟩
            case measure => simp [intOf]; omega
          · have HA : Hid ((47 : UInt8) ∉ u1.data.toList.take n) := hid (fun hm => by
              obtain ⟨k, hk, e⟩ := List.getElem_of_mem hm
              have hk2 : k < n := by rw [List.length_take] at hk; omega
              rw [List.getElem_take] at e
              exact HN.out k (by omega) hk2 e)
            have HB : Hid (Hd (u1.data.toList.drop n)) := hid (by
              by_cases hlt : n < u1.size
              · right
                refine ⟨u1.data.toList.drop (n + 1), ?_⟩
                rw [List.drop_eq_getElem_cons (by rw [size_list]; exact hlt)]
                congr 1
                exact Classical.byContradiction fun h => hgo ⟨hlt, h⟩
              · left
                exact List.drop_eq_nil_of_le (by rw [size_list]; omega))
            have HR2 : Hid (Rest S l (47 :: (u1.data.toList.take n ++ u1.data.toList.drop n))) := hid (by rw [List.take_append_drop]; exact HR1.out)
            have HP := hid (Lib.extract_from_zero u1 n)
            have HQ := hid (Lib.extract_to_end u1 n)
            have hps : (u1.extract 0 n).size ≤ n := by simp; omega
            have hqs : (u1.extract n u1.size).size + n ≤ u1.size := by simp; omega
            clear HN HR1
            obtain ⟨pa, hpa⟩ : ∃ pa, u1.extract 0 n = pa := ⟨_, rfl⟩
            obtain ⟨qb, hqb⟩ : ∃ qb, u1.extract n u1.size = qb := ⟨_, rfl⟩
            rw [hpa] at HP hps
            rw [hqb] at HQ hqs
            by_cases hlt : n < u1.size
            · have h7 : u1[n] = 47 := Classical.byContradiction fun h => hgo ⟨hlt, h⟩
              have hb7 : u1[n].toNat = 47 := by rw [h7]; rfl
              clear hgo h7
              have CS := hid (fun X => step5_any pa X (by omega))
              go_wp2_with fail
              go_at_call 47
              refine (CS.out _).mono ?_
              rintro e w1 ⟨⟨st, ok, rfl, hok⟩, hb1⟩
              cases ok with
              | false =>
                have hno : step5 (u1.data.toList.take n) = none := by rw [← HP.out]; exact hok
                have HNO := hid (rest_no HR2.out HA.out HB.out hno)
                simp only [pv]
                clear hok hno HR2 HA HB
                go_wp2_with fail
                go_ret2
                exact ⟨⟨_, false, rfl, HNO.out⟩, valloc_bel (vonto HBW.out hb1) _⟩
              | true =>
                have hyes : step5 (u1.data.toList.take n) = some st := by rw [← HP.out]; exact hok
                have HNX := hid (rest_next HR2.out HA.out HB.out hyes)
                have HFS := hid (And.intro (step5_frm hyes) (step5_small hyes (by rw [List.length_take, size_list]; omega)))
                have hsz := vonto HBW.out hb1
                have hsz1 := hsz.size
                have HB1 := hid hsz
                have HO1 := hid (ownsRow_below HO.out hb1)
                have hnc := new_cells (w1.alloc (.cells #[.string st.key, .int .i64 st.at_, .bool st.place] 79)) (sc st) 79
                rw [World.size_alloc] at hnc
                have HNC := hid hnc
                simp only [pv]
                clear hok hyes HR2 HA HB hb1 hsz hnc
                go_wp2_with (at_builtin; go_must (refine wpList_append_lies _ rfl _ _ _ rfl w.heap.size 79 i1 (.agg #[.string ⟨#[]⟩, .int .i64 0, .bool false]) 3 32 Tryz.underlying41 hi' hz0' hz1' hz2' rfl (by decide) _ l.length _ rfl ((HO1.out.alloc _).alloc _) ⟨w1.heap.size + 1, 0, none⟩ 1 1 (sc st) rfl rfl HNC.out (sc_one st) (by decide) (by unfold maxLen; omega) (by omega) (by simp; omega) (w1.heap.size + 1 + 1) (by simp) ?_; intro g9 cap9 w9 hown9 hgr9 hat9 hlt9))
                have hb9 : Below w.heap.size w w9 := (valloc_bel (valloc_bel HB1.out _) _).grown hgr9 (by simp; omega) (fun q hq => (HO1.out.lt q hq).1)
                have HFN : Hid (∀ x ∈ l ++ [st], Frm x ∧ Small x) := hid (fun x hx => (List.mem_append.1 hx).elim (fun h => HF.out x h) (fun h => by rw [List.mem_singleton.1 h]; exact HFS.out))
                go_roundw
                case rel => exact ⟨qb, l ++ [st], rfl, by rw [List.length_append, List.length_singleton]; omega, hid (by rw [HQ.out]; exact HNX.out), hid (by rw [List.flatMap_append, List.length_append]; simpa using hown9), HFN, hb9⟩
                case measure => show qb.size < u.size; omega
            · clear hgo
              have CS := hid (fun X => step5_any pa X (by omega))
              go_wp2_with fail
              go_at_call 47
              refine (CS.out _).mono ?_
              rintro e w1 ⟨⟨st, ok, rfl, hok⟩, hb1⟩
              cases ok with
              | false =>
                have hno : step5 (u1.data.toList.take n) = none := by rw [← HP.out]; exact hok
                have HNO := hid (rest_no HR2.out HA.out HB.out hno)
                simp only [pv]
                clear hok hno HR2 HA HB
                go_wp2_with fail
                go_ret2
                exact ⟨⟨_, false, rfl, HNO.out⟩, valloc_bel (vonto HBW.out hb1) _⟩
              | true =>
                have hyes : step5 (u1.data.toList.take n) = some st := by rw [← HP.out]; exact hok
                have HNX := hid (rest_next HR2.out HA.out HB.out hyes)
                have HFS := hid (And.intro (step5_frm hyes) (step5_small hyes (by rw [List.length_take, size_list]; omega)))
                have hsz := vonto HBW.out hb1
                have hsz1 := hsz.size
                have HB1 := hid hsz
                have HO1 := hid (ownsRow_below HO.out hb1)
                have hnc := new_cells (w1.alloc (.cells #[.string st.key, .int .i64 st.at_, .bool st.place] 79)) (sc st) 79
                rw [World.size_alloc] at hnc
                have HNC := hid hnc
                simp only [pv]
                clear hok hyes HR2 HA HB hb1 hsz hnc
                go_wp2_with (at_builtin; go_must (refine wpList_append_lies _ rfl _ _ _ rfl w.heap.size 79 i1 (.agg #[.string ⟨#[]⟩, .int .i64 0, .bool false]) 3 32 Tryz.underlying41 hi' hz0' hz1' hz2' rfl (by decide) _ l.length _ rfl ((HO1.out.alloc _).alloc _) ⟨w1.heap.size + 1, 0, none⟩ 1 1 (sc st) rfl rfl HNC.out (sc_one st) (by decide) (by unfold maxLen; omega) (by omega) (by simp; omega) (w1.heap.size + 1 + 1) (by simp) ?_; intro g9 cap9 w9 hown9 hgr9 hat9 hlt9))
                have hb9 : Below w.heap.size w w9 := (valloc_bel (valloc_bel HB1.out _) _).grown hgr9 (by simp; omega) (fun q hq => (HO1.out.lt q hq).1)
                have HFN : Hid (∀ x ∈ l ++ [st], Frm x ∧ Small x) := hid (fun x hx => (List.mem_append.1 hx).elim (fun h => HF.out x h) (fun h => by rw [List.mem_singleton.1 h]; exact HFS.out))
                go_roundw
                case rel => exact ⟨qb, l ++ [st], rfl, by rw [List.length_append, List.length_singleton]; omega, hid (by rw [HQ.out]; exact HNX.out), hid (by rw [List.flatMap_append, List.length_append]; simpa using hown9), HFN, hb9⟩
                case measure => show qb.size < u.size; omega
      · have hb : ¬ u[0].toNat = 47 := fun h => h47 (UInt8.toNat_inj.1 h)
        have hb2 : ((u[0].toNat : Int) != 47) = true := by simp; omega
        have HN := hid (rest_bad (b := u[0]) (u := u.data.toList.drop 1) (by rw [← HC.out]; exact HR.out) h47)
        clear HC HR
        go_wp2_with fail
        go_ret2
        exact ⟨⟨_, false, rfl, HN.out⟩, HBW.out⟩
end Go.Proofs.YtjffhjdjoankcaaGreatDoor
