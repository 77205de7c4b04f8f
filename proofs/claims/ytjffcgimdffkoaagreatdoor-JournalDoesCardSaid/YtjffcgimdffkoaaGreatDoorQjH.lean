/- The reference's journal in memory: Snap, whatever it is. -/
import Derived.Test.YtjffcgimdffkoaaGreatDoorQjG
namespace Go.Proofs.YtjffcgimdffkoaaGreatDoor
open Go.RowKit

theorem rsnap_any (w : World) (K R q r : Nat) (v : Value) (s : SS) (m : Int) (j : JS) (x : ByteArray) (H : Jr w K R q r v s j) (hF : Fine s m) (hm : m ≤ 800000) (ok : Okr s.n j) (hx : x.size ≤ maxLen) :
    Calls Tryz.prog 13 #[.pointer (some ⟨K, 0, none⟩), .string x] w (RJoD w K R q r (snapS s j x.data.toList)) := by
  have hn := hF.hi
  have h3 := hF.lo
  have hK := H.head
  obtain ⟨g, hg⟩ : ∃ g, g = 1 - j.half := ⟨_, rfl⟩
  have hg1 : g ≤ 1 := by omega
  have hS := H.rt.span hg1 h3 hn
  have hts := til_small hn hg1
  cases hbr : j.br with
  | true =>
    rw [hbr] at hK
    have e1 : snapS s j x.data.toList = (s, j, 9) := by unfold snapS; rw [if_pos hbr]
    rw [e1]
    refine (rsnap_down w K q _ _ v x hK).mono ?_
    rintro e w' ⟨rfl, rfl⟩
    exact RJoD.same H rfl (Below.refl _ _)
  | false =>
    rw [hbr] at hK
    by_cases hf : full x.data.toList (frm s.n g) (til s.n g)
    · have e1 : snapS s j x.data.toList = (s, j, 4) := by unfold snapS; rw [if_neg (by rw [hbr]; simp), ← hg, if_pos hf]
      rw [e1]
      have hf' : 40000 < x.size ∨ til s.n g < frm s.n g + nb x.size := by
        unfold full at hf
        rwa [list_size] at hf
      refine (rsnap_err w K q j.half j.next g _ _ v x 0 4 (fun w' => Below w.heap.size w w') hK ok.half hg hS (by decide) (fun z => ?_)).mono fun e w' h => RJoD.same H h.1 h.2
      refine (jlay_full (w.drewN z) K _ _ x hx (by omega) (by omega) hf').mono fun e w' h => ⟨h.1, Below.undraw h.2⟩
    · have hf' : x.size ≤ 40000 ∧ frm s.n g + nb x.size ≤ til s.n g := by
        unfold full at hf
        rw [list_size] at hf
        omega
      have hl : ∀ z, Calls Tryz.prog 37 #[.pointer (some ⟨K, 0, none⟩), .string x, .int .i64 ((frm s.n g : Nat) : Int), .int .i64 ((til s.n g : Nat) : Int)] (w.drewN z) (RLay (w.drewN z) K q r j.half j.next (nb x.size) v (runW s (layW s.B x.data.toList (frm s.n g) (til s.n g)))) := fun z =>
        jlay_any (w.drewN z) K q r j.half j.next (frm s.n g) (til s.n g) v false x s m (hK.up ⟨rfl, rfl, rfl, Nat.le_refl _, fun _ _ => rfl⟩) (H.rt.drewN z) hF hm hf'.1 hf'.2 (til_le s.n g h3 hg1)
      have hsw : runW s (snapW s j x.data.toList) = if (runW s (layW s.B x.data.toList (frm s.n g) (til s.n g))).2 = 0 then (wrS (runW s (layW s.B x.data.toList (frm s.n g) (til s.n g))).1 0 (mark0 g), wrE (runW s (layW s.B x.data.toList (frm s.n g) (til s.n g))).1 0 (mark0 g)) else runW s (layW s.B x.data.toList (frm s.n g) (til s.n g)) := by
        unfold snapW
        rw [← hg, runW_append]
        split
        · exact runW_one _ _ _
        · rfl
      have hfi := runW_fine (layW s.B x.data.toList (frm s.n g) (til s.n g)) s m hF
      have hlen : (layW s.B x.data.toList (frm s.n g) (til s.n g)).length ≤ 1000 := by
        unfold layW
        rw [List.length_append, List.length_append, bodyW_len, rest_len]
        have hnn := nb_le (k := x.data.toList.length) (by rw [list_size]; exact hf'.1)
        have : (if frm s.n g + nb x.data.toList.length < til s.n g ∧ s.B (frm s.n g + nb x.data.toList.length) ≠ zs 64 then [(frm s.n g + nb x.data.toList.length, zs 64)] else []).length ≤ 1 := by split <;> simp
        simp only [List.length_cons, List.length_nil]
        omega
      obtain ⟨S, hSe⟩ : ∃ S, S = runW s (layW s.B x.data.toList (frm s.n g) (til s.n g)) := ⟨_, rfl⟩
      rw [← hSe] at hl hsw hfi
      by_cases hr : S.2 = 0
      · rw [if_pos hr] at hsw
        have hok := rsnap_ok w K q r j.half j.next g (nb x.size) (frm s.n g) (til s.n g) v x S.1 (m + 1000) hK ok.half hg hS (by omega) (by have := nb_le hf'.1; omega) (hfi.more (by omega)) (by omega) (fun z => (hl z).mono fun e w' h => by
          obtain ⟨h1, h2, h3, h4⟩ := h
          rw [hr] at h1 h3
          exact ⟨h1, h2, h3, h4⟩)
        refine hok.mono ?_
        rintro e w' ⟨rfl, hrt, ht, hif⟩
        have hq : K < w.heap.size ∧ q < w.heap.size ∧ r < w.heap.size := by
          obtain ⟨cap, T, hh, _⟩ := H.rt.head
          obtain ⟨cs, hc, _⟩ := H.rt.row
          exact ⟨H.head.lt, hh.lt, hc.lt⟩
        by_cases hE : wrE S.1 0 (mark0 g) = 0
        · have e1 : snapS s j x.data.toList = (wrS S.1 0 (mark0 g), { half := g, next := frm s.n g + nb x.data.toList.length, L := [x.data.toList], br := false }, 0) := by
            unfold snapS
            rw [if_neg (by rw [hbr]; simp), ← hg, if_neg hf, hsw, if_pos hE]
          rw [e1, hE]
          rw [if_pos hE] at hif
          obtain ⟨R', l1, l2, hK', hrow⟩ := hif
          refine ⟨rfl, ⟨R', .slice (some ⟨R', 0, none⟩) 1 1, .inr l1, ⟨?_, ?_, hrt, by omega, l2⟩⟩, ht⟩
          · show Has w' K _ (rcs q g (frm s.n g + nb x.data.toList.length) _ false)
            rw [list_size]
            exact hK'
          · show Rw w' R' _ ([x.data.toList].map str)
            rw [List.map_singleton, str_of]
            exact hrow
        · have e1 : snapS s j x.data.toList = (wrS S.1 0 (mark0 g), { j with br := true }, wrE S.1 0 (mark0 g)) := by
            unfold snapS
            rw [if_neg (by rw [hbr]; simp), ← hg, if_neg hf, hsw, if_neg hE]
          rw [e1]
          rw [if_neg hE] at hif
          exact ⟨rfl, ⟨R, v, .inl rfl, ⟨hif, H.recs.of fun cs hc => ht.has hc (by have := H.ne; omega), hrt, H.ne, Nat.lt_of_lt_of_le H.lt ht.size⟩⟩, ht⟩
      · rw [if_neg hr] at hsw
        have e1 : snapS s j x.data.toList = (S.1, { j with br := true }, S.2) := by
          unfold snapS
          rw [if_neg (by rw [hbr]; simp), ← hg, if_neg hf, hsw, if_neg hr]
        rw [e1]
        refine (rsnap_err w K q j.half j.next g _ _ v x (nb x.size) S.2 (fun w' => Jr w' K R q r v S.1 { j with br := true } ∧ Turn (fun k => k = K ∨ k = q ∨ k = r) w w') hK ok.half hg hS hr (fun z => (hl z).mono fun e w' h => H.broke hr h)).mono ?_
        rintro e w' ⟨rfl, hj, ht⟩
        exact ⟨rfl, ⟨R, v, .inl rfl, hj⟩, ht⟩
end Go.Proofs.YtjffcgimdffkoaaGreatDoor
