/- A journal and its store in memory: Append and Snap, whatever they are. -/
import Derived.Test.YtjffcgimdffkoaaGreatDoorJnN
namespace Go.Proofs.YtjffcgimdffkoaaGreatDoor
open Go.RowKit

/-- a journal and its store in memory -/
structure Jat (w : World) (J R p b : Nat) (v : Value) (s : SS) (j : JS) (m : Int) : Prop where
  at_ : At w p b s m
  jv : Jv w J R v p s.n j
  ne : R ≠ J ∧ R ≠ p ∧ R ≠ b
/-- behind a call: the answer, the store and the journal, and which blocks may have turned -/
def JoD (w : World) (J R p b : Nat) (S : SS × JS × Int) (m : Int) (e : Ending) (w' : World) : Prop :=
  e = .returned (.int .i64 S.2.2) ∧ (∃ R' v', (R' = R ∨ w.heap.size ≤ R') ∧ Jat w' J R' p b v' S.1 S.2.1 m) ∧ Turn (fun k => k = J ∨ k = p ∨ k = b ∨ k = R) w w'

theorem LayD.r0 {w w' : World} {J p b h n u : Nat} {t : ByteArray} {v : Value} {S : SS × Int} {m : Int} {e : Ending} (H : LayD w J p b h n u t v S m e w') (q : S.2 = 0) : LayR w J p b h n u t v 0 S.1 false m e w' := by
  obtain ⟨h1, h2, h3, h4⟩ := H
  rw [q] at h1 h3
  exact ⟨h1, h2, h3, h4⟩
theorem LayD.rE {w w' : World} {J p b h n u : Nat} {t : ByteArray} {v : Value} {S : SS × Int} {m : Int} {e : Ending} (H : LayD w J p b h n u t v S m e w') (q : S.2 ≠ 0) : LayR w J p b h n u t v S.2 S.1 true m e w' := by
  obtain ⟨h1, h2, h3, h4⟩ := H
  rw [show (S.2 != 0) = true by simpa using q] at h3
  exact ⟨h1, h2, h3, h4⟩
/-- the journal's numbers -/
theorem Ok.nums {n : Nat} {j : JS} (ok : Ok n j) (hn : n ≤ 4096) : 1 + j.half * hlf n + (j.next - frm n j.half) = j.next ∧ j.next - frm n j.half ≤ hlf n ∧ til n j.half = 1 + j.half * hlf n + hlf n ∧ hlf n ≤ 2047 := by
  have h1 := ok.lo
  have h2 := ok.hi
  have h3 := hlf_le hn
  rw [frm_til] at h2 ⊢
  unfold frm at h1 ⊢
  omega
theorem two_le {n : Nat} (h : 3 ≤ n) {k : Nat} (hk : k ≤ 1) : 1 + k * hlf n + hlf n ≤ n := by
  have : k = 0 ∨ k = 1 := by omega
  unfold hlf
  rcases this with rfl | rfl <;> omega
theorem Jat.err {w w' : World} {J R p b : Nat} {v : Value} {s S : SS} {j : JS} {m m' : Int} {e : Ending} {E : Int} {br : Bool} (H : Jat w J R p b v s j m)
    (q : LayR w J p b j.half (hlf s.n) (j.next - frm s.n j.half) (str (j.L.headD [])) v E S br m' e w') (hn : S.n = s.n) : JoD w J R p b (S, { j with br := br }, E) m' e w' := by
  obtain ⟨h1, h2, h3, h4⟩ := q
  refine ⟨h1, ⟨R, v, .inl rfl, h2, ⟨?_, H.jv.recs.of (fun cs hc => h4.has hc (by have := H.ne; omega)), Nat.lt_of_lt_of_le H.jv.lt h4.size⟩, H.ne⟩, h4.in4⟩
  show Has w' J _ (jcs p j.half (hlf S.n) (j.next - frm S.n j.half) _ v br)
  rw [hn]; exact h3
theorem jbr (j : JS) {br : Bool} (h : j.br = br) : ({ j with br := br } : JS) = j := by cases j; cases h; rfl

theorem append_any (w : World) (J R p b : Nat) (v : Value) (s : SS) (m : Int) (j : JS) (x : ByteArray) (H : Jat w J R p b v s j m) (hm : m ≤ 800000) (ok : Ok s.n j) (hx : x.size ≤ maxLen) (hT : Tb w) :
    Calls Tryz.prog 10 #[.pointer (some ⟨J, 0, none⟩), .string x] w (JoD w J R p b (appS s j x.data.toList) (m + 10000)) := by
  have hn := H.at_.fine.hi
  have h3 := H.at_.fine.lo
  obtain ⟨n1, n2, n3, n4⟩ := ok.nums hn
  have hA : At w.drew p b s m := H.at_.drewN 1
  have hJ := H.jv.head
  cases hbr : j.br with
  | true =>
    rw [hbr] at hJ
    have e1 : appS s j x.data.toList = (s, { j with br := true }, 9) := by unfold appS; rw [if_pos hbr, jbr j hbr]
    rw [e1]
    refine (append_err w J p b _ _ _ _ x v true true 9 s (m + 10000) hJ (by decide) ?_).mono fun e w' q => H.err q rfl
    refine (lay_down w.drew J p _ _ _ p _ _ _ _ x v _ hJ.drew1).mono ?_
    rintro e w' ⟨rfl, hb⟩
    exact ⟨rfl, (hA.up hb).fine_more (by omega), hJ.drew1.up hb, Turn.of _ hb⟩
  | false =>
    rw [hbr] at hJ
    by_cases hf : full x.data.toList j.next (til s.n j.half)
    · have e1 : appS s j x.data.toList = (s, { j with br := false }, 4) := by unfold appS; rw [if_neg (by rw [hbr]; simp), if_pos hf, jbr j hbr]
      rw [e1]
      have hf' : 40000 < x.size ∨ hlf s.n < (j.next - frm s.n j.half) + nb x.size := by
        unfold full at hf
        rw [list_size, n3] at hf
        omega
      refine (append_err w J p b _ _ _ _ x v false false 4 s (m + 10000) hJ (by decide) ?_).mono fun e w' q => H.err q rfl
      refine (lay_full_any w.drew J p _ _ _ p _ _ _ _ x v _ hJ.drew1 hx (by omega) (by omega) hf' hT.drew).mono ?_
      rintro e w' ⟨rfl, hb⟩
      exact ⟨rfl, (hA.up hb).fine_more (by omega), hJ.drew1.up hb, Turn.of _ hb⟩
    · have hf' : x.size ≤ 40000 ∧ (j.next - frm s.n j.half) + nb x.size ≤ hlf s.n := by
        unfold full at hf
        rw [list_size, n3] at hf
        omega
      have r4 : Room4 s j.half (hlf s.n) (j.next - frm s.n j.half) x.data.toList := ⟨ok.half, by omega, by rw [list_size]; exact hf'.2, two_le h3 ok.half, by rw [list_size]; exact hf'.1⟩
      have hl := lay_do w.drew J p b j.half (hlf s.n) (j.next - frm s.n j.half) j.half (j.next - frm s.n j.half) (str (j.L.headD [])) x v s m hJ.drew1 hA hm r4 hT.drew
      rw [n1, show 1 + j.half * hlf s.n + hlf s.n = til s.n j.half by omega] at hl
      by_cases hr : (runW s (layW s.B x.data.toList j.next (til s.n j.half))).2 = 0
      · have e1 : appS s j x.data.toList = ((runW s (layW s.B x.data.toList j.next (til s.n j.half))).1, { j with L := j.L ++ [x.data.toList], next := j.next + nb x.data.toList.length }, 0) := by
          unfold appS; rw [if_neg (by rw [hbr]; simp), if_neg hf, if_pos hr]
        rw [e1]
        have hq := append_ok w J R p b _ _ _ _ x v _ false _ _ hJ H.jv.recs H.jv.lt H.ne (by have := ok.len hn; simp; omega) hf'.1 (by omega) (hl.mono fun e w' q => q.r0 hr)
        refine hq.mono ?_
        rintro e w' ⟨rfl, ha, ⟨R', v', hR, hRl, hJ', hrow⟩, ht⟩
        have hlt := H.at_.lt
        have hJl := H.jv.head.lt
        refine ⟨rfl, ⟨R', v', hR, ha, ⟨?_, ?_, hRl⟩, ?_⟩, ht⟩
        · have hn' := runW_n (layW s.B x.data.toList j.next (til s.n j.half)) s
          show Has w' J _ (jcs p j.half (hlf (runW s _).1.n) (j.next + nb x.data.toList.length - frm (runW s _).1.n j.half) (str ((j.L ++ [x.data.toList]).headD [])) v' j.br)
          have hne := ok.ne
          rw [hn', list_size, hbr, show j.next + nb x.size - frm s.n j.half = j.next - frm s.n j.half + nb x.size by have := ok.lo; omega]
          rw [show (j.L ++ [x.data.toList]).headD [] = j.L.headD [] by cases hL : j.L with
            | nil => exact absurd hL hne
            | cons a l => rfl]
          exact hJ'
        · show Rw w' R' v' ((j.L ++ [x.data.toList]).tail.map str)
          have hne := ok.ne
          have : (j.L ++ [x.data.toList]).tail.map str = j.L.tail.map str ++ [x] := by
            cases hL : j.L with
            | nil => exact absurd hL hne
            | cons a l => simp [str_of]
          rw [this]
          exact hrow
        · have := H.ne
          rcases hR with rfl | hR
          · exact this
          · omega
      · have e1 : appS s j x.data.toList = ((runW s (layW s.B x.data.toList j.next (til s.n j.half))).1, { j with br := true }, (runW s (layW s.B x.data.toList j.next (til s.n j.half))).2) := by
          unfold appS; rw [if_neg (by rw [hbr]; simp), if_neg hf, if_neg hr]
        rw [e1]
        exact (append_err w J p b _ _ _ _ x v false true _ _ _ hJ hr (hl.mono fun e w' q => q.rE hr)).mono fun e w' q => H.err q (runW_n _ _)
end Go.Proofs.YtjffcgimdffkoaaGreatDoor

namespace Go.Proofs.YtjffcgimdffkoaaGreatDoor
open Go.RowKit

theorem snap_any (w : World) (J R p b : Nat) (v : Value) (s : SS) (m : Int) (j : JS) (x : ByteArray) (H : Jat w J R p b v s j m) (hm : m ≤ 800000) (ok : Ok s.n j) (hx : x.size ≤ maxLen) (hT : Tb w) :
    Calls Tryz.prog 12 #[.pointer (some ⟨J, 0, none⟩), .string x] w (JoD w J R p b (snapS s j x.data.toList) (m + 10000)) := by
  have hn := H.at_.fine.hi
  have h3 := H.at_.fine.lo
  obtain ⟨n1, n2, n3, n4⟩ := ok.nums hn
  have hJ := H.jv.head
  have hg : 1 - j.half ≤ 1 := by omega
  have n5 : til s.n (1 - j.half) = 1 + (1 - j.half) * hlf s.n + hlf s.n := frm_til _ _
  have n6 : frm s.n (1 - j.half) = 1 + (1 - j.half) * hlf s.n := rfl
  cases hbr : j.br with
  | true =>
    rw [hbr] at hJ
    have e1 : snapS s j x.data.toList = (s, { j with br := true }, 9) := by unfold snapS; rw [if_pos hbr, jbr j hbr]
    rw [e1]
    refine (snap_err w J p b _ _ _ _ x v true true 9 s (m + 10000) hJ ok.half (by decide) ?_).mono fun e w' q => H.err q rfl
    intro W O M hB hO hM
    refine (lay_down W J p _ _ _ p _ _ 0 _ x v _ (hJ.up hB)).mono ?_
    rintro e w' ⟨rfl, hb⟩
    exact ⟨rfl, ((H.at_.up hB).up hb).fine_more (by omega), (hJ.up hB).up hb, Turn.of _ hb⟩
  | false =>
    rw [hbr] at hJ
    by_cases hf : full x.data.toList (frm s.n (1 - j.half)) (til s.n (1 - j.half))
    · have e1 : snapS s j x.data.toList = (s, { j with br := false }, 4) := by unfold snapS; rw [if_neg (by rw [hbr]; simp), if_pos hf, jbr j hbr]
      rw [e1]
      have hf' : 40000 < x.size ∨ hlf s.n < 0 + nb x.size := by
        unfold full at hf
        rw [list_size, n5, n6] at hf
        omega
      refine (snap_err w J p b _ _ _ _ x v false false 4 s (m + 10000) hJ ok.half (by decide) ?_).mono fun e w' q => H.err q rfl
      intro W O M hB hO hM
      refine (lay_full_any W J p _ _ _ p _ _ 0 _ x v _ (hJ.up hB) hx (by omega) (by omega) hf' (hT.up hB)).mono ?_
      rintro e w' ⟨rfl, hb⟩
      exact ⟨rfl, ((H.at_.up hB).up hb).fine_more (by omega), (hJ.up hB).up hb, Turn.of _ hb⟩
    · have hf' : x.size ≤ 40000 ∧ 0 + nb x.size ≤ hlf s.n := by
        unfold full at hf
        rw [list_size, n5, n6] at hf
        omega
      have r4 : Room4 s (1 - j.half) (hlf s.n) 0 x.data.toList := ⟨hg, by omega, by rw [list_size]; exact hf'.2, two_le h3 hg, by rw [list_size]; exact hf'.1⟩
      have hl : ∀ (W : World) (O M : Nat), Below w.heap.size w W → Has W O 60 (hv p (1 - j.half) (hlf s.n)) → Has W M 101 #[fnV (39, #[.pointer (some ⟨O, 0, none⟩)])] →
          Calls Tryz.prog 35 #[.pointer (some ⟨J, 0, none⟩), .agg (hv p (1 - j.half) (hlf s.n)), .int .i64 0, .string x, .slice (some ⟨M, 0, none⟩) 1 1] W
            (LayD W J p b j.half (hlf s.n) (j.next - frm s.n j.half) (str (j.L.headD [])) v (runW s (snapW s j x.data.toList)) (m + 10000)) := fun W O M hB hO hM =>
        lay_one W J p b j.half (hlf s.n) (j.next - frm s.n j.half) (1 - j.half) 0 (str (j.L.headD [])) x v s m (hJ.up hB) (H.at_.up hB) hm r4 (hT.up hB) M O hM hO
      by_cases hr : (runW s (snapW s j x.data.toList)).2 = 0
      · have e1 : snapS s j x.data.toList = ((runW s (snapW s j x.data.toList)).1, { half := 1 - j.half, next := frm s.n (1 - j.half) + nb x.data.toList.length, L := [x.data.toList], br := false }, 0) := by
          unfold snapS; rw [if_neg (by rw [hbr]; simp), if_neg hf, if_pos hr]
        rw [e1]
        refine (snap_ok w J p b _ _ _ _ x v false _ _ hJ ok.half hf'.1 H.at_.lt (fun W O M a1 a2 a3 => (hl W O M a1 a2 a3).mono fun e w' q => q.r0 hr)).mono ?_
        rintro e w' ⟨rfl, ha, hJ', ht⟩
        refine ⟨rfl, ⟨R, .slice none 0 0, .inl rfl, ha, ⟨?_, .inl ⟨rfl, rfl⟩, Nat.lt_of_lt_of_le H.jv.lt ht.size⟩, H.ne⟩, ht.in4⟩
        have hn' := runW_n (snapW s j x.data.toList) s
        show Has w' J _ (jcs p (1 - j.half) (hlf (runW s _).1.n) (frm s.n (1 - j.half) + nb x.data.toList.length - frm (runW s _).1.n (1 - j.half)) (str x.data.toList) (.slice none 0 0) false)
        rw [hn', list_size, str_of, show frm s.n (1 - j.half) + nb x.size - frm s.n (1 - j.half) = nb x.size by omega]
        exact hJ'
      · have e1 : snapS s j x.data.toList = ((runW s (snapW s j x.data.toList)).1, { j with br := true }, (runW s (snapW s j x.data.toList)).2) := by
          unfold snapS; rw [if_neg (by rw [hbr]; simp), if_neg hf, if_neg hr]
        rw [e1]
        exact (snap_err w J p b _ _ _ _ x v false true _ _ _ hJ ok.half hr (fun W O M a1 a2 a3 => (hl W O M a1 a2 a3).mono fun e w' q => q.rE hr)).mono fun e w' q => H.err q (runW_n _ _)

theorem app_ok {s : SS} {j : JS} (b : List UInt8) (ok : Ok s.n j) : Ok (appS s j b).1.n (appS s j b).2.1 ∧ (appS s j b).1.n = s.n := by
  unfold appS
  by_cases hb : j.br = true
  · rw [if_pos hb]; exact ⟨ok, rfl⟩
  · rw [if_neg hb]
    by_cases hf : full b j.next (til s.n j.half)
    · rw [if_pos hf]; exact ⟨ok, rfl⟩
    · rw [if_neg hf]
      by_cases hr : (runW s (layW s.B b j.next (til s.n j.half))).2 = 0
      · rw [if_pos hr]
        have hn := runW_n (layW s.B b j.next (til s.n j.half)) s
        refine ⟨?_, hn⟩
        show Ok (runW s _).1.n _
        rw [hn]
        have := nb_pos b.length
        unfold full at hf
        exact ⟨ok.half, by have := ok.lo; simp; omega, by show j.next + nb b.length ≤ til s.n j.half; omega, by simp⟩
      · rw [if_neg hr]
        have hn := runW_n (layW s.B b j.next (til s.n j.half)) s
        refine ⟨?_, hn⟩
        show Ok (runW s _).1.n _
        rw [hn]
        exact ⟨ok.half, ok.lo, ok.hi, ok.ne⟩
theorem snap_okay {s : SS} {j : JS} (b : List UInt8) (ok : Ok s.n j) : Ok (snapS s j b).1.n (snapS s j b).2.1 ∧ (snapS s j b).1.n = s.n := by
  unfold snapS
  by_cases hb : j.br = true
  · rw [if_pos hb]; exact ⟨ok, rfl⟩
  · rw [if_neg hb]
    by_cases hf : full b (frm s.n (1 - j.half)) (til s.n (1 - j.half))
    · rw [if_pos hf]; exact ⟨ok, rfl⟩
    · rw [if_neg hf]
      have hn := runW_n (snapW s j b) s
      by_cases hr : (runW s (snapW s j b)).2 = 0
      · rw [if_pos hr]
        refine ⟨?_, hn⟩
        show Ok (runW s _).1.n _
        rw [hn]
        have := nb_pos b.length
        unfold full at hf
        exact ⟨by show 1 - j.half ≤ 1; omega, by simp; omega, by show frm s.n (1 - j.half) + nb b.length ≤ til s.n (1 - j.half); omega, by simp⟩
      · rw [if_neg hr]
        refine ⟨?_, hn⟩
        show Ok (runW s _).1.n _
        rw [hn]
        exact ⟨ok.half, ok.lo, ok.hi, ok.ne⟩
end Go.Proofs.YtjffcgimdffkoaaGreatDoor
