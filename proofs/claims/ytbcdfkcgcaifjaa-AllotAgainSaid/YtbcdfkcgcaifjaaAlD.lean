/- Some. -/
import Derived.Test.YtbcdfkcgcaifjaaAlB
namespace Go.Proofs.Ytbcdfkcgcaifjaa
open Go.RowKit

theorem places_yes (p : Nat → Int) (a : Option Addr) (m cap n : Nat) (w : World) (hm : m ≤ 1000) (hA : Arg w a m p) (h : 0 < m ∧ risesB p n m = true) :
    Calls Try.prog 21 #[.slice a m cap, .int .i64 (n : Int)] w fun e w' => e = .returned (.bool true) ∧ w = w' :=
  (places_any p a m cap n w hm hA).mono fun e w' ⟨b, he, hb, hw⟩ => ⟨by rw [he, hb.2 h], hw⟩
theorem places_no (p : Nat → Int) (a : Option Addr) (m cap n : Nat) (w : World) (hm : m ≤ 1000) (hA : Arg w a m p) (h : ¬ (0 < m ∧ risesB p n m = true)) :
    Calls Try.prog 21 #[.slice a m cap, .int .i64 (n : Int)] w fun e w' => e = .returned (.bool false) ∧ w = w' :=
  (places_any p a m cap n w hm hA).mono fun e w' ⟨b, he, hb, hw⟩ => ⟨by rw [he]; cases b with
    | false => rfl
    | true => exact absurd (hb.1 rfl) h, hw⟩
def SomePost (w : World) (price : Int) (f : Nat → Int) (n : Nat) (p : Nat → Int) (m : Nat) (e : Ending) (w' : World) : Prop :=
  Listed w (someE price f n p m) n (someV price f n p m) e w' ∧
    (someE price f n p m = 0 → Sorts m (restV (leaveV price (othV f p m) n) (picV f p) (sumN (picV f p) m)))
theorem some_err {w w' : World} {price : Int} {f p : Nat → Int} {n m : Nat} {err : Int} {e : Ending} (h : someE price f n p m = err) (h0 : err ≠ 0) (hb : Below w.heap.size w w') (he : e = .returned (.tuple #[.slice none 0 0, .int .i64 err])) : SomePost w price f n p m e w' := by
  unfold SomePost; rw [h]; exact ⟨⟨hb, .inl ⟨h0, he⟩⟩, fun q => absurd q h0⟩
theorem oth_am {f : Nat → Int} (hf : Amounts f) (p : Nat → Int) (m : Nat) : Amounts (othV f p m) := fun t => by
  unfold othV; split
  · omega
  · exact hf t
theorem putV_set (g p v : Nat → Int) (i : Nat) (j : Nat) (hj : p i = (j : Int)) : putV g p v (i + 1) = fun s => if s = j then v i else putV g p v i s := by
  funext s
  show (if (s : Int) = p i then v i else putV g p v i s) = _
  by_cases q : s = j
  · rw [if_pos q, if_pos (by omega)]
  · rw [if_neg q, if_neg (by omega)]

set_option maxRecDepth 100000 in
set_option maxHeartbeats 2000000 in
theorem some_no (price : Int) (f p : Nat → Int) (a c : Option Addr) (n m capa capc : Nat) (w : World) (hn : n ≤ 1000) (hm : m ≤ 1000) (hA : Arg w a n f) (hC : Arg w c m p) (h : price < 0 ∨ ¬ (0 < m ∧ risesB p n m = true) ∨ minN f n < 0) :
    Calls Try.prog 10 #[.int .i64 price, .slice a n capa, .slice c m capc] w (SomePost w price f n p m) := by
  have HE : Hid (someE price f n p m = 1) := by show _ = _; unfold someE; rw [if_pos h]
  by_cases h1 : price < 0
  · clear h hA hC
    go_enter Try.func10, Try.ntmps10
    go_wp2_with fail
    go_ret2
    exact some_err HE.out (by decide) (Below.refl _ _) rfl
  · by_cases h2 : 0 < m ∧ risesB p n m = true
    · have h3 : minN f n < 0 := by
        rcases h with h | h | h
        · exact absurd h h1
        · exact absurd h2 h
        · exact h
      have hin := rises_in h2.2 h2.1
      have h0 : 0 < n := by omega
      have HP := Lib.hid (places_yes p c m capc n w hm hC h2)
      obtain ⟨b, off, rfl, hr⟩ := hA h0
      have HM := Lib.hid (min_any f b off n capa w h0 hn hr)
      obtain ⟨x, hx⟩ : ∃ x, x = minN f n := ⟨_, rfl⟩
      rw [← hx] at HM h3
      clear h hC h2 hr hx hA hin
      go_enter Try.func10, Try.ntmps10
      go_wp2_with (first | (go_at_call 21; refine HP.out.mono ?_; rintro e w' ⟨rfl, rfl⟩) | (go_at_call 22; refine HM.out.mono ?_; rintro e w' ⟨rfl, rfl⟩))
      go_ret2
      exact some_err HE.out (by decide) (Below.refl _ _) rfl
    · have HP := Lib.hid (places_no p c m capc n w hm hC h2)
      clear h hC h2 hA
      go_enter Try.func10, Try.ntmps10
      go_wp2_with (first | (go_at_call 21; refine HP.out.mono ?_; rintro e w' ⟨rfl, rfl⟩))
      go_ret2
      exact some_err HE.out (by decide) (Below.refl _ _) rfl

set_option maxRecDepth 100000 in
set_option maxHeartbeats 4000000 in
theorem some_yes (price : Int) (f p : Nat → Int) (a c : Option Addr) (n m capa capc : Nat) (w : World) (hf : Amounts f) (ht : Am price) (hn : n ≤ 1000) (hm : m ≤ 1000) (hA : Arg w a n f) (hC : Arg w c m p) (h1 : ¬ price < 0) (h2 : 0 < m ∧ risesB p n m = true) (h3 : ¬ minN f n < 0) :
    Calls Try.prog 10 #[.int .i64 price, .slice a n capa, .slice c m capc] w (SomePost w price f n p m) := by
  have hin := rises_in h2.2 h2.1
  have h0 : 0 < n := by omega
  have h0m := h2.1
  have HP := Lib.hid (places_yes p c m capc n w hm hC h2)
  have HR := Lib.hid h2.2
  have ho := oth_am hf p m
  have HOth := Lib.hid (others_any f p a c n m capa capc w hA hC h2.2 h0 hn hm)
  have HPic := Lib.hid (fun (W : World) (q : Below w.heap.size w W) => pick_any f p a c n m capa capc W (hA.up13 q) (hC.up13 q) h2.2 h0m hm)
  have la := leave_am price (othV f p m) n
  have HLv := Lib.hid (fun (W : World) (g : Nat) (q : Ints W g n (othV f p m)) => leave_any price (othV f p m) (some ⟨g, 0, none⟩) n n W ho ht hn (ints_arg0 q))
  have HO := Lib.hid (fun (W : World) (g : Nat) (q : Ints W g m (picV f p)) => out_any (leaveV price (othV f p m) n) (picV f p) (some ⟨g, 0, none⟩) m m W (fun k => hf _) la.1 la.2 (ints_arg0 q))
  have hq : ¬ (price < 0 ∨ ¬ (0 < m ∧ risesB p n m = true) ∨ minN f n < 0) := by
    rintro (q | q | q)
    · exact h1 q
    · exact q h2
    · exact h3 q
  have HE1 : Hid (leaveE price (othV f p m) n ≠ 0 → someE price f n p m = 3) := fun q => by unfold someE; rw [if_neg hq, if_pos q]
  have HE2 : Hid (leaveE price (othV f p m) n = 0 → leaveV price (othV f p m) n < 0 → someE price f n p m = 1) := fun q q2 => by unfold someE; rw [if_neg hq, if_neg (by omega), if_pos q2]
  have HE3 : Hid (leaveE price (othV f p m) n = 0 → ¬ leaveV price (othV f p m) n < 0 → someE price f n p m = outE (leaveV price (othV f p m) n) (picV f p) m) := fun q q2 => by unfold someE; rw [if_neg hq, if_neg (by omega), if_neg q2]
  have HEV : Hid (someV price f n p m = putV (othV f p m) p (outV (leaveV price (othV f p m) n) (picV f p) m) m) := rfl
  obtain ⟨b, off, rfl, hr⟩ := hA h0
  have HM := Lib.hid (min_any f b off n capa w h0 hn hr)
  have HC := Lib.hid hC
  obtain ⟨x, hx⟩ : ∃ x, x = minN f n := ⟨_, rfl⟩
  rw [← hx] at HM h3
  obtain ⟨L, hL⟩ : ∃ L, L = leaveV price (othV f p m) n := ⟨_, rfl⟩
  rw [← hL] at HLv HO HE2 HE3 HEV
  have HLd := Lib.hid hL
  obtain ⟨E1, hE1⟩ : ∃ E1, E1 = leaveE price (othV f p m) n := ⟨_, rfl⟩
  have HEE := Lib.hid hE1
  rw [← hE1] at HLv HE1 HE2 HE3
  obtain ⟨O, hO⟩ : ∃ O, O = othV f p m := ⟨_, rfl⟩
  rw [← hO] at HOth HEV HLv
  obtain ⟨G, hG⟩ : ∃ G, G = picV f p := ⟨_, rfl⟩
  have HGd := Lib.hid hG
  rw [← hG] at HPic HO HE3 HEV
  have HE1z : Hid (E1 ≠ 0 → E1 = 3) := fun q => by rw [hE1] at q ⊢; exact leave_err q
  clear hC h2 hr hx hA hin hq ho la hL hE1 hO hG ht hf
  have h3z : decide (x < 0) = false := decide_eq_false h3
  have h1z : decide (price < 0) = false := decide_eq_false h1
  clear h3 h1
  go_enter Try.func10, Try.ntmps10
  go_wp2_with (first | (go_at_call 21; refine HP.out.mono ?_; rintro e w' ⟨rfl, rfl⟩) | (go_at_call 22; refine HM.out.mono ?_; rintro e w' ⟨rfl, rfl⟩))
  refine HOth.out.mono ?_
  rintro e w1 ⟨g, rfl, hb, hg, hi⟩
  have HB1 := Lib.hid hb
  have HI1 := Lib.hid hi
  have HG := Lib.hid hg
  have HL1 : Hid (g < w1.heap.size) := World.block_lt_of_cell? (a := ⟨g, 0, none⟩) _ (hi 0 h0).1
  clear hb hi hg HOth HP HM
  go_wp2_with fail
  refine (HLv.out w1 g HI1.out).mono ?_
  rintro e w2 ⟨rfl, hb⟩
  have HB2 := Lib.hid (up2 HB1.out hb)
  have HI2 := Lib.hid (ints_up HI1.out hb)
  have HL2 : Hid (g < w2.heap.size) := by have := HL1.out; have := hb.size; show g < _; omega
  clear hb HB1 HI1 HL1 HLv
  by_cases q1 : E1 = 0
  · subst q1
    by_cases q2 : L < 0
    · have HX : Hid (someE price f n p m = 1) := HE2.out rfl q2
      clear HE1 HE2 HE3
      go_wp2_with fail
      go_ret2
      exact some_err HX.out (by decide) HB2.out rfl
    · have HX := Lib.hid (HE3.out rfl (by omega))
      have q2z : decide (L < 0) = false := decide_eq_false q2
      have HL0 : Hid (0 ≤ L) := by show _ ≤ _; omega
      clear HE1 HE2 HE3 q2
      go_wp2_with fail
      refine (HPic.out w2 HB2.out).mono ?_
      rintro e w3 ⟨s, rfl, hb, hs, hi⟩
      have HB3 := Lib.hid (up2 HB2.out hb)
      have HI3 := Lib.hid (ints_up HI2.out hb)
      have HL3 : Hid (g < w3.heap.size) := by have := HL2.out; have := hb.size; show g < _; omega
      have HIs := Lib.hid hi
      clear hb hs hi HPic HB2 HI2 HL2
      go_wp2_with fail
      refine (HO.out w3 s HIs.out).mono ?_
      rintro e w4 ⟨⟨hb, h⟩, hsr⟩
      have HB4 := Lib.hid (up2 HB3.out hb)
      have HI4 := Lib.hid (ints_up HI3.out hb)
      have HSr := Lib.hid hsr
      clear hb hsr HB3 HI3 HO
      rcases h with ⟨he, rfl⟩ | ⟨he, u, rfl, hu, hi⟩
      · have HY := Lib.hid he
        obtain ⟨E, hE⟩ : ∃ E, E = outE L G m := ⟨_, rfl⟩
        rw [← hE] at HX HY ⊢
        have z : (E != 0) = true := by have := HY.out; simp [this]
        clear hE he
        go_wp2_with fail
        go_ret2
        exact some_err HX.out HY.out HB4.out rfl
      · rw [he] at HX
        have HIu := Lib.hid hi
        have HN : Hid (u ≠ g) := by have := HL3.out; show u ≠ g; omega
        have HS2 := Lib.hid (HSr.out he)
        obtain ⟨v, hv⟩ : ∃ v, v = outV L G m := ⟨_, rfl⟩
        rw [← hv] at HIu HEV
        clear hi hu he HSr HL3 HIs hv
        go_wp2_with fail
        go_loopw [55] (fun vi wr => ∃ i : Nat, i ≤ m ∧ vi = .int .i64 i ∧ Below w.heap.size w wr ∧ Ints wr g n (putV O p v i) ∧ Ints wr u m v) (fun vi _ => m - (intOf vi).toNat)
        case atStart => exact ⟨0, Nat.zero_le _, rfl, HB4.out, HI4.out, HIu.out⟩
        case round =>
          clear HB4 HI4 HIu
          obtain ⟨i, him, rfl, hB, hI, hU⟩ := hrel
          have HB := Lib.hid hB
          have HI := Lib.hid hI
          have HU := Lib.hid hU
          clear hB hI hU
          by_cases hlt : i < m
          · obtain ⟨b1, off1, rfl, hr⟩ := HC.out (by omega)
            have c1 := kcell HB.out (hr i hlt)
            have hin := rises_in HR.out hlt
            obtain ⟨j, hj⟩ : ∃ j : Nat, p i = (j : Int) := ⟨(p i).toNat, by omega⟩
            have hjn : j < n := by omega
            rw [hj] at c1
            have c2 := (HU.out i hlt).1
            have c3 := (HI.out j hjn).1
            have c4 := (HI.out j hjn).2
            have HV := Lib.hid (putV_set O p v i j hj)
            obtain ⟨y, hy⟩ : ∃ y, y = v i := ⟨_, rfl⟩
            obtain ⟨z, hz⟩ : ∃ z, z = putV O p v i j := ⟨_, rfl⟩
            rw [← hy] at c2 HV
            rw [← hz] at c3
            clear hr hin hj hy hz
            go_wp2_with fail
            go_roundw
            case rel => exact ⟨i + 1, by omega, by go_num, HB.out.setCell HG.out _, by rw [HV.out]; exact ints_set HI.out hjn y, fun t ht => ⟨cset (HU.out t ht).1 (.inl HN.out), fset (HU.out t ht).2⟩⟩
            case measure => simp [intOf]; omega
          · have hie : i = m := by omega
            subst hie
            clear him hlt
            go_wp2_with fail
            go_ret2
            unfold SomePost
            rw [HX.out, HEV.out, ← HLd.out, ← HGd.out]
            exact ⟨⟨HB.out, .inr ⟨rfl, g, rfl, HG.out, HI.out⟩⟩, fun _ => by have := HS2.out; rw [if_pos HL0.out] at this; exact this⟩
  · have HX : Hid (someE price f n p m = 3) := HE1.out q1
    have q1z : (E1 != 0) = true := by simp [q1]
    have q3 := HE1z.out q1
    subst q3
    clear HE1 HE2 HE3 q1
    go_wp2_with fail
    go_ret2
    exact some_err HX.out (by decide) HB2.out rfl

theorem some_any (price : Int) (f p : Nat → Int) (a c : Option Addr) (n m capa capc : Nat) (w : World) (hf : Amounts f) (ht : Am price) (hn : n ≤ 1000) (hm : m ≤ 1000) (hA : Arg w a n f) (hC : Arg w c m p) :
    Calls Try.prog 10 #[.int .i64 price, .slice a n capa, .slice c m capc] w (SomePost w price f n p m) := by
  by_cases h : price < 0 ∨ ¬ (0 < m ∧ risesB p n m = true) ∨ minN f n < 0
  · exact some_no price f p a c n m capa capc w hn hm hA hC h
  · exact some_yes price f p a c n m capa capc w hf ht hn hm hA hC (fun q => h (.inl q)) (Classical.byContradiction fun q => h (.inr (.inl q))) (fun q => h (.inr (.inr q)))
end Go.Proofs.Ytbcdfkcgcaifjaa
