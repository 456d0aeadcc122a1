/- The document's own TUnquote of chapter 6: walked. -/
import Derived.Test.YtikdggcdgdokiaaDoorEscTX
import Derived.Test.YtikdggcdgdokiaaDoorEscTA
import Derived.Test.YtikdggcdgdokiaaDoorEscTA2
import Derived.Test.YtikdggcdgdokiaaDoorEscTB
import Derived.Test.YtikdggcdgdokiaaDoorEscTC
import Derived.Test.YtikdggcdgdokiaaDoorEscTC2
namespace Go.Proofs.YtikdggcdgdokiaaDoor
open Go.RowKit

set_option maxRecDepth 1000000 in
set_option maxHeartbeats 4000000 in
/-- a round, whatever it finds -/
theorem tround (many : Bool) (t : ByteArray) (a : Nat) (ha : a < t.size) (Q : Nat) (R : List UInt8 × Nat × Int) (w : World) (Q0 : Exit → Act → World → Prop) (ht : t.size ≤ 1000000) (hQ : t[a].toNat = Q) (hqq : Q = 34 ∨ Q = 39)
    (hret : Hid (TRet R w Q0)) (hexit : Hid (∀ x wr', TX t R w x wr' → Q0 (.exit 0) x wr')) (x : Act) (wr : World) (h : TI many t a ha Q R w x wr) :
    Code.wp Tryd.prog ((Tryd.f13.body.bind firstLoop).getD .skip) (Exit.then (fun x' w' => TI many t a ha Q R w x' w' ∧ Tmu t x' w' < Tmu t x wr) Q0) x wr := by
  obtain ⟨h1, h2, h3, h4, h5, h6, i, f, acc, A, h7, h8, hrel⟩ := h
  obtain ⟨tm, df⟩ := x
  simp only at h1 h2 h3 h4 h5 h6 h7 h8
  subst h1
  have hmu : Tmu t ⟨tm, []⟩ wr = t.size - i := by unfold Tmu; simp only [h7, intOf, Int.toNat_natCast]
  rw [hmu]
  have hfr := lit_frame tm h2
  rw [h3, h4, h5, h6, h7, h8] at hfr
  rw [hfr]
  by_cases hlt : i < t.size
  · by_cases hiq : t[i].toNat = t[a].toNat
    · cases many with
      | false => exact tr_one t a ha Q R w i f acc A (fun k => tm.getD k undef) Q0 wr ht hQ hqq hrel hret hlt hiq
      | true =>
        by_cases h3 : qN Q (t.data.toList.drop i) < 3
        · exact tr_few t a ha Q R w i f acc A (fun k => tm.getD k undef) Q0 wr ht hQ hqq hrel hret hlt hiq h3
        · exact tr_three t a ha Q R w i f acc A (fun k => tm.getD k undef) Q0 wr ht hQ hqq hrel hret hlt hiq h3
    · by_cases hesc : t[i].toNat = 92 ∧ t[a].toNat = 34
      · by_cases hfd : 0 < fdM many (t.data.toList.drop i)
        · exact tr_fold many t a ha Q R w i f acc A (fun k => tm.getD k undef) Q0 wr ht hQ hqq hrel hret hlt hesc hfd
        · by_cases hz : (escP true (t.data.toList.drop i)).2 = 0
          · exact tr_escbad many t a ha Q R w i f acc A (fun k => tm.getD k undef) Q0 wr ht hQ hqq hrel hret hlt hesc (by omega) hz
          · exact tr_esc many t a ha Q R w i f acc A (fun k => tm.getD k undef) Q0 wr ht hQ hqq hrel hret hlt hesc (by omega) (by omega)
      · by_cases hbad : badB many (t.data.toList.drop i)
        · exact tr_bad many t a ha Q R w i f acc A (fun k => tm.getD k undef) Q0 wr ht hQ hqq hrel hret hlt hiq hesc hbad
        · exact tr_plain many t a ha Q R w i f acc A (fun k => tm.getD k undef) Q0 wr ht hQ hqq hrel hret hlt hiq hesc hbad
  · exact tr_end many t a ha Q R w i f acc A (fun k => tm.getD k undef) Q0 wr ht hQ hqq hrel hret hlt hexit
/-- the loop -/
theorem tloop (many : Bool) (t : ByteArray) (a : Nat) (ha : a < t.size) (Q : Nat) (R : List UInt8 × Nat × Int) (w : World) (Q0 : Exit → Act → World → Prop) (ht : t.size ≤ 1000000) (hQ : t[a].toNat = Q) (hqq : Q = 34 ∨ Q = 39)
    (hret : Hid (TRet R w Q0)) (hexit : Hid (∀ x wr', TX t R w x wr' → Q0 (.exit 0) x wr')) (x : Act) (wr : World) (h : TI many t a ha Q R w x wr) :
    Code.wp Tryd.prog (Code.loop ((Tryd.f13.body.bind firstLoop).getD .skip)) Q0 x wr :=
  wp_loop (TI many t a ha Q R w) (Tmu t) h (fun a' w' hI => tround many t a ha Q R w Q0 ht hQ hqq hret hexit a' w' hI)
end Go.Proofs.YtikdggcdgdokiaaDoor
