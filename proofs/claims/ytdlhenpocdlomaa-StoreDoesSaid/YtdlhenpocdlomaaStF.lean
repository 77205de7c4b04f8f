/- Are both stores the same? They are. -/
import Derived.Test.YtdlhenpocdlomaaStE
namespace Go.Proofs.Ytdlhenpocdlomaa
open Go.RowKit

set_option maxRecDepth 100000 in
set_option maxHeartbeats 2000000 in
theorem same_any (w : World) (p b q r : Nat) (s : SS) (m : Int) (hA : At w p b s m) (hR : Rt w q r s) :
    Calls Try.prog 9 #[.pointer (some ⟨p, 0, none⟩), .pointer (some ⟨q, 0, none⟩)] w fun e w' => e = .returned (.bool true) ∧ Below w.heap.size w w' := by
  obtain ⟨cap, T, hh, _⟩ := hR.head
  obtain ⟨cs, hc, hl⟩ := hR.row
  have j0 : w.cell? ⟨q, 0, none⟩ = some (.slice (some ⟨r, 0, none⟩) s.n cap) := hh.cell 0
  have j4 : w.cell? ⟨q, 4, none⟩ = some (.int .i64 s.mn) := hh.cell 4
  have HA := Lib.hid hA
  have HC := Lib.hid hc
  have HL := Lib.hid hl
  have hn := hA.fine.hi
  clear hA hR hh hc hl
  go_enter Try.func9, Try.ntmps9
  go_wp2_with fail
  go_loop [13] (fun i => ∃ k : Nat, k ≤ s.n ∧ i = .int .i64 (k : Int)) (fun i => s.n - (intOf i).toNat)
  case atStart => exact ⟨0, by omega, rfl⟩
  case round =>
    obtain ⟨k, hk, rfl⟩ := hrel
    by_cases hlt : k < s.n
    · have i1 : (k : Int) < (s.n : Int) := by omega
      have j1 : w.cell? ⟨r, k, none⟩ = some (.string (s.B k)) := by rw [HC.out.cell]; exact HL.out k hlt
      go_wp2_with fail
      refine (HA.out.read (a := (k : Int)) (by omega) i1).mono ?_
      rintro e w1 ⟨rfl, rfl⟩
      rw [Int.toNat_natCast]
      go_wp2_with fail
      go_round
      case rel => exact ⟨k + 1, by omega, by go_num⟩
      case measure => simp [intOf]; omega
    · obtain rfl : k = s.n := by omega
      go_wp2_with fail
      have q1 : ((s.n : Int) == (s.n : Int)) = true := by simp
      have q2 : (s.mn == s.mn) = true := by simp
      go_quiet ((first | (go_at_call 16; exact quiet_left (blocks_any _ p b s (HA.out.drewN _).st)) | (go_at_call 15; exact quiet_left (writes_any _ p b s (HA.out.drewN _).st))))
      go_wp2_with fail
      go_ret
      exact ⟨rfl, blw (Below.refl _ _) _⟩
end Go.Proofs.Ytdlhenpocdlomaa
