/- Parts and rests are as the document says: the law's walk. -/
import Derived.Test.YtpcfobfmccedbaaRef
namespace Go.Proofs.Ytpcfobfmccedbaa
open Go.RowKit

def RPartIs (a p m v e : Int) : Prop := ∀ w : World, Calls Try.prog 18 #[.int .i64 a, .int .i64 p, .int .i64 m] w fun x w' => x = .returned (.tuple #[.int .i64 v, .int .i64 e]) ∧ Below w.heap.size w w'
def RRestIs (a p m v e : Int) : Prop := ∀ w : World, Calls Try.prog 20 #[.int .i64 a, .int .i64 p, .int .i64 m] w fun x w' => x = .returned (.tuple #[.int .i64 v, .int .i64 e]) ∧ Below w.heap.size w w'

set_option maxRecDepth 100000 in
set_option maxHeartbeats 400000 in
theorem parts_core (a p m v e r f : Int) (w : World) (h1 : PartIs a p m v e) (h2 : RPartIs a p m v e) (h3 : RestIs a p m r f) (h4 : RRestIs a p m r f) :
    Calls Try.prog 4 #[.int .i64 a, .int .i64 p, .int .i64 m] w fun e w' => e = .returned (.bool true) ∧ Below w.heap.size w w' := by
  go_enter Try.func4, Try.ntmps4
  go_wp2_with fail
  refine (awake_any _).mono ?_
  rintro _ w1 ⟨rfl, hb1⟩
  have B1 := Lib.hid hb1
  clear hb1
  go_wp2_with fail
  refine (h1 _).mono ?_
  rintro _ w2 ⟨rfl, hb2⟩
  have B2 := Lib.hid (B1.out.trans (hb2.mono B1.out.size))
  clear hb2 B1
  go_wp2_with fail
  refine (h2 _).mono ?_
  rintro _ w3 ⟨rfl, hb3⟩
  have B3 := Lib.hid (B2.out.trans (hb3.mono B2.out.size))
  clear hb3 B2
  go_wp2_with fail
  refine (h3 _).mono ?_
  rintro _ w4 ⟨rfl, hb4⟩
  have B4 := Lib.hid (B3.out.trans (hb4.mono B3.out.size))
  clear hb4 B3
  go_wp2_with fail
  refine (h4 _).mono ?_
  rintro _ w5 ⟨rfl, hb5⟩
  have B5 := Lib.hid (B4.out.trans (hb5.mono B4.out.size))
  clear hb5 B4
  go_wp2_with fail
  go_ret
  exact ⟨rfl, B5.out⟩

theorem parts_any (a p m : Int) (w : World) (ha : Am a) (hp : Am p) (hm : Am m) :
    Calls Try.prog 4 #[.int .i64 a, .int .i64 p, .int .i64 m] w fun e w' => e = .returned (.bool true) ∧ Below w.heap.size w w' := by
  by_cases h : m < 1 ∨ p < 0
  · exact parts_core a p m 0 1 0 1 w (partIs_arg a h) (fun w => (rpart_no a p m w h).mono fun _ _ ⟨he, hw⟩ => ⟨he, hw ▸ Below.refl _ _⟩)
      (fun w => (rest_no a p m w h).mono fun _ _ ⟨he, hw⟩ => ⟨he, hw ▸ Below.refl _ _⟩) (fun w => (rrest_no a p m w h).mono fun _ _ ⟨he, hw⟩ => ⟨he, hw ▸ Below.refl _ _⟩)
  · have hm1 : 1 ≤ m := by omega
    have hp0 : 0 ≤ p := by omega
    exact parts_core a p m _ _ _ _ w (fun w => part_any a p m w ha.1 ha.2 hp0 hp.2 hm1 hm.2) (fun w => rpart_any a p m w ha hp0 hp hm1 hm)
      (fun w => rest_any a p m w ha.1 ha.2 hp0 hp.2 hm1 hm.2) (fun w => rrest_any a p m w ha hp0 hp hm1 hm)
end Go.Proofs.Ytpcfobfmccedbaa
