/- opposite. -/
import Derived.Test.YtginbgclifdfiaaAcU
namespace Go.Proofs.Ytginbgclifdfiaa
open Go.RowKit

def negO (x : Po) : Po := ⟨x.a, x.c, -x.m⟩
/-- the first ones of the other sign -/
def negTo (j : Nat) (ps : List Po) : List Po := (ps.take j).map negO ++ ps.drop j
theorem negTo_get {j : Nat} {ps : List Po} {x : Po} (h : ps[j]? = some x) : (negTo j ps)[j]? = some x := by
  have hj := (List.getElem?_eq_some_iff.1 h).1
  have hl : ((ps.take j).map negO).length = j := by rw [List.length_map, List.length_take]; omega
  unfold negTo
  rw [List.getElem?_append_right (by omega), hl, List.getElem?_drop]
  simpa using h
theorem negTo_step {j : Nat} {ps : List Po} {x : Po} (h : ps[j]? = some x) : negTo (j + 1) ps = (negTo j ps).set j (negO x) := by
  have hj := (List.getElem?_eq_some_iff.1 h).1
  have hl : ((ps.take j).map negO).length = j := by rw [List.length_map, List.length_take]; omega
  unfold negTo
  rw [List.set_append_right _ _ (by omega), hl, Nat.sub_self, List.take_add_one, h, List.map_append, List.drop_eq_getElem_cons hj, List.set_cons_zero, List.append_assoc]
  rfl
theorem negTo_all (ps : List Po) : negTo ps.length ps = negP ps := by unfold negTo negP; simp [negO]
theorem negTo_len (j : Nat) (ps : List Po) : (negTo j ps).length = ps.length := by unfold negTo; simp; omega
theorem flat_set {l : List Po} {j : Nat} {x : Po} (h : l[j]? = some x) (m : Int) : flat (l.set j ⟨x.a, x.c, m⟩) = (flat l).set (j * 3 + 2) (.int .i64 m) := by
  induction l generalizing j with
  | nil => simp at h
  | cons y l ih =>
    have e : ∀ (z : Po) (l : List Po), flat (z :: l) = z.cells ++ flat l := fun z l => by simp [flat]
    cases j with
    | zero => simp at h; subst h; simp [e, Po.cells]
    | succ j =>
      rw [List.set_cons_succ, e, e, ih (by simpa using h)]
      have hl : y.cells.length = 3 := rfl
      rw [List.set_append_right _ _ (by omega), hl]
      congr 2
      omega
section
variable {w w' : World}
theorem own_set {base e size n cap g : Nat} {xs : List Value} (h : w.ownsRow base e size (.slice (some ⟨g, 0, none⟩) n cap) n xs) (j : Nat) (u : Value) : (w.setCell ⟨g, j, none⟩ u).ownsRow base e size (.slice (some ⟨g, 0, none⟩) n cap) n (xs.set j u) := by
  rcases h.2 with ⟨h2, _⟩ | ⟨g', cap', cur, h2, h3, h4, h5, h6, h7, h8⟩
  · cases h2
  · injection h2 with h2 _ h9
    injection h2 with h2
    have h2' : g = g' := by injection h2
    subst h2'
    subst h9
    refine ⟨by rw [List.length_set]; exact h.1, .inr ⟨g, cap, cur.setIfInBounds j u, rfl, h3, ?_, h5, h6, by simpa using h7, ?_⟩⟩
    · exact Has.put (show Has w g e cur from h4) j u
    · rw [Array.toList_setIfInBounds, List.take_set, h8]
def OppR (w : World) (ps : List Po) (e : Ending) (w' : World) : Prop :=
  ((leastB ps = true ∧ e = .returned (.tuple #[.slice none 0 0, .int .i64 3])) ∨
   (leastB ps = false ∧ ∃ v, e = .returned (.tuple #[v, .int .i64 0]) ∧ w'.ownsRow w.heap.size 48 3 v ps.length (flat (negP ps)))) ∧ Below w.heap.size w w'
set_option maxRecDepth 100000 in
set_option maxHeartbeats 4000000 in
theorem opposite_any (ad : Addr) (n cap : Nat) (ps : List Po) (hp : PsA w (some ad) ps) (hn : ps.length = n) (h1 : 1 ≤ n) (h2 : n ≤ 1000) (hm : Ams ps) :
    Calls Try.prog 45 #[.slice (some ad) n cap] w (OppR w ps) := by
  have HCl := Lib.hid (clone_any ad n cap ps hp hn h1 h2)
  have HM := Lib.hid hm
  subst hn
  clear hp hm
  go_enter Try.func45, Try.ntmps45
  go_wp2_with fail
  refine HCl.out.mono ?_
  rintro e w1 ⟨v, rfl, hown, hb⟩
  obtain ⟨g, c, rfl⟩ : ∃ g c, v = .slice (some ⟨g, 0, none⟩) ps.length c := by
    rcases hown.2 with ⟨_, h⟩ | ⟨g, c, _, rfl, _⟩
    · omega
    · exact ⟨g, c, rfl⟩
  have HO := Lib.hid hown
  have HB := Lib.hid hb
  clear hown hb
  go_wp2_with fail
  go_loopw [5, 6, 7, 12] (fun _ _ _ i wr => ∃ j : Nat, j ≤ ps.length ∧ i = .int .i64 (j : Int) ∧ wr.ownsRow w.heap.size 48 3 (.slice (some ⟨g, 0, none⟩) ps.length c) ps.length (flat (negTo j ps)) ∧ Below w.heap.size w wr ∧ leastB (ps.take j) = false) (fun _ _ _ i _ => ps.length - (intOf i).toNat)
  case atStart => exact ⟨0, Nat.zero_le _, rfl, by unfold negTo; simpa using HO.out, HB.out, by simp [leastB]⟩
  case round =>
    obtain ⟨j, hj, rfl, h3, h4, h5⟩ := hrel
    have H3 := Lib.hid h3
    have H4 := Lib.hid h4
    have H5 := Lib.hid h5
    clear h3 h4 h5
    by_cases hlt : j < ps.length
    · obtain ⟨x, hx⟩ : ∃ x, ps[j]? = some x := ⟨ps[j], List.getElem?_eq_getElem hlt⟩
      have hxm := (HM.out x (List.mem_of_getElem? hx)).2.2
      have hfl := (flat_cell (negTo_get hx)).2.2
      have hc2 : wr.cell? ⟨g, j * 3 + 2, none⟩ = some (.int .i64 x.m) := by
        have := World.ownsRow.cellAt (w := wr) H3.out (j * 3 + 2) (by omega)
        rw [this, hfl]
      have hgl := (World.ownsRow.lt H3.out g rfl)
      have HLess := Lib.hid (less_calls 0 x.m wr (by omega) (by omega) hxm.1 hxm.2)
      rw [show (0 : Int) - x.m = -x.m by omega] at HLess
      have HX := Lib.hid hx
      have i1 : (0 : Int) ≤ (j : Int) := by omega
      have i2 : (j : Int) < (ps.length : Int) := by omega
      have i3 : ((j : Int)).toNat = j := by omega
      by_cases hle : x.m = -9223372036854775808
      · have te := (tell_no (x := -x.m) (by rw [hle]; rfl)).2
        rw [te] at HLess
        have hls : leastB ps = true := List.any_eq_true.2 ⟨x, List.mem_of_getElem? HX.out, by simp [hle]⟩
        have HLs := Lib.hid hls
        clear hfl hx hle te hls hgl hxm
        go_wp2_with fail
        refine HLess.out.mono ?_
        rintro e w2 ⟨rfl, hb2⟩
        have HB2 := Lib.hid hb2
        clear hb2 hc2
        go_wp2_with fail
        go_ret2
        exact ⟨.inl ⟨HLs.out, rfl⟩, up2 H4.out HB2.out⟩
      · have hamn : Am (-x.m) := by unfold Am at hxm ⊢; omega
        have te := tell_am hamn
        rw [te.1, te.2] at HLess
        have HLe := Lib.hid hle
        clear hfl hx te hxm hamn
        go_wp2_with fail
        refine HLess.out.mono ?_
        rintro e w2 ⟨rfl, hb2⟩
        have HB2 := Lib.hid hb2
        have hown2 := own_keep H3.out (w' := w2) (fun j hj => hb2.block j (World.ownsRow.lt H3.out j hj).2)
        have hnew := own_set hown2 (j * 3 + 2) (.int .i64 (-x.m))
        rw [← flat_set (negTo_get HX.out) (-x.m), show (⟨x.a, x.c, -x.m⟩ : Po) = negO x from rfl, ← negTo_step HX.out] at hnew
        have HNew := Lib.hid hnew
        have d2 := kcell hb2 hc2
        have f2 : w2.frozen? ⟨g, j * 3 + 2, none⟩ = false := by
          rcases hown2.2 with ⟨h, _⟩ | ⟨g', c', cur, h, _, hh, _⟩
          · cases h
          · injection h with h
            injection h with h
            obtain rfl : g = g' := by injection h
            exact (show Has w2 g _ cur from hh).free _
        have HGl := Lib.hid hgl.1
        clear hb2 hc2 hown2 hnew hgl hle
        go_wp2_with fail
        go_roundw
        case rel =>
          refine ⟨j + 1, by omega, by go_num, HNew.out, (up2 H4.out HB2.out).setCell HGl.out _, ?_⟩
          have h5 := H5.out
          unfold leastB at h5 ⊢
          rw [List.take_add_one, HX.out, List.any_append, h5]
          simp [HLe.out]
        case measure => simp [intOf]; omega
    · obtain rfl : j = ps.length := by omega
      have h5 := H5.out
      rw [List.take_length] at h5
      have h3 := H3.out
      rw [negTo_all] at h3
      have H5' := Lib.hid h5
      have H3' := Lib.hid h3
      clear h3 h5
      go_wp2_with fail
      go_ret2
      exact ⟨.inr ⟨H5'.out, _, rfl, H3'.out⟩, H4.out⟩
end
end Go.Proofs.Ytginbgclifdfiaa
