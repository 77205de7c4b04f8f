/- The law CivilTells, over integers. -/
import Derived.Test.YtjhchfilbaeffaaDoorMovesCore
namespace Go.Proofs.YtjhchfilbaeffaaDoor
open Go.RowKit

theorem days_pair (y m d : Int) (hy : Am y) (hm : Am m) (hd : Am d) : Pair 9 10 #[.int .i64 y, .int .i64 m, .int .i64 d] := by
  cases h : mayB y m d
  · exact ⟨0, 1, Lib.hid fun W hL => days_no y m d W hL hy hm hd h, Lib.hid fun W => rdays_no y m d W h⟩
  · exact ⟨num y m d, 0, Lib.hid fun W hL => days_yes y m d W hL hy hm hd h, Lib.hid fun W => rdays_yes y m d W (of_decide_eq_true h)⟩
theorem date_pair (n : Int) : ∃ y m d e : Int, Hid (∀ W, Lg W → Calls Tryd.prog 11 #[.int .i64 n] W fun x w' => x = .returned (.tuple #[.int .i64 y, .int .i64 m, .int .i64 d, .int .i64 e]) ∧ Below W.heap.size W w') ∧
    Hid (∀ W, Calls Tryd.prog 12 #[.int .i64 n] W fun x w' => x = .returned (.tuple #[.int .i64 y, .int .i64 m, .int .i64 d, .int .i64 e]) ∧ Below W.heap.size W w') := by
  by_cases h : 1 ≤ n ∧ n ≤ 999668
  · obtain ⟨y, m, d, hI⟩ := isd_some h.1 h.2
    exact ⟨y, m, d, 0, Lib.hid fun W hL => date_is n y m d W hL hI, Lib.hid fun W => rdate_is n y m d W hI⟩
  · exact ⟨0, 0, 0, 1, Lib.hid fun W _ => same_below (date_no n W h), Lib.hid fun W => same_below (rdate_no n W h)⟩

set_option maxRecDepth 100000 in
set_option maxHeartbeats 2000000 in
theorem tells_any (y m d n : Int) (w : World) (hL : Lg w) (hy : Am y) (hm : Am m) (hd : Am d) (hn : Am n) :
    Calls Tryd.prog 3 #[.int .i64 y, .int .i64 m, .int .i64 d, .int .i64 n] w fun e w' => e = .returned (.bool true) ∧ Below w.heap.size w w' := by
  have HL := Lib.hid hL
  have HY := Lib.hid hy
  have HN := Lib.hid hn
  obtain ⟨v, e, C1, C2⟩ := days_pair y m d hy hm hd
  obtain ⟨y2, m2, d2, e2, C3, C4⟩ := date_pair n
  clear hL hy hm hd hn
  go_enter Tryd.func3, Tryd.ntmps3
  go_wp2_with fail
  refine (awake_any w HL.out).mono ?_
  rintro e w1 ⟨rfl, hb⟩
  have HB1 := Lib.hid hb
  clear hb
  go_wp2_with fail
  refine (C1.out w1 (HL.out.below HB1.out)).mono ?_
  rintro e w2 ⟨rfl, hb⟩
  have HB2 := Lib.hid (up2 HB1.out hb)
  clear hb
  go_wp2_with fail
  refine (C2.out w2).mono ?_
  rintro e w3 ⟨rfl, hb⟩
  have HB3 := Lib.hid (up2 HB2.out hb)
  clear hb
  go_wp2_with fail
  refine (C3.out w3 (HL.out.below HB3.out)).mono ?_
  rintro e w4 ⟨rfl, hb⟩
  have HB4 := Lib.hid (up2 HB3.out hb)
  clear hb
  go_wp2_with fail
  refine (C4.out w4).mono ?_
  rintro e w5 ⟨rfl, hb⟩
  have HB5 := Lib.hid (up2 HB4.out hb)
  clear hb
  go_wp2_with fail
  refine (leap_any y w5 HY.out).mono ?_
  rintro e w6 ⟨rfl, rfl⟩
  go_wp2_with fail
  refine (rleap_any y w5 HY.out).mono ?_
  rintro e w6 ⟨rfl, rfl⟩
  go_wp2_with fail
  refine (long_any y m w5 (HL.out.below HB5.out) HY.out).mono ?_
  rintro e w6 ⟨rfl, rfl⟩
  go_wp2_with fail
  refine (rlong_any y m w5 HY.out).mono ?_
  rintro e w6 ⟨rfl, hb⟩
  have HB6 := Lib.hid (up2 HB5.out hb)
  clear hb
  go_wp2_with fail
  refine (wday_any n w6 HN.out).mono ?_
  rintro e w7 ⟨rfl, rfl⟩
  go_wp2_with fail
  refine (rwday_any n w6 HN.out).mono ?_
  rintro e w7 ⟨rfl, rfl⟩
  go_wp2_with fail
  go_ret
  exact ⟨by simp, HB6.out⟩
end Go.Proofs.YtjhchfilbaeffaaDoor
