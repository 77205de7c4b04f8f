/- lay, with one more step. -/
import Derived.Test.YtjffcgimdffkoaaGreatDoorJnI
namespace Go.Proofs.YtjffcgimdffkoaaGreatDoor
open Go.RowKit

/-- what was made behind a world is none of its blocks -/
theorem Turn.past {w w1 w2 : World} {G : Nat} (h : Turn (fun k => k = G) w1 w2) (h0 : Below w.heap.size w w1) (q : w.heap.size ≤ G) : Below w.heap.size w w2 :=
  h0.trans (h.below h0.size (fun k e => by have : k = G := e; omega))
theorem order_five {w : World} {p b G c h n a X F E I g C d O : Nat} {l : List UInt8} {s : SS} {m : Int} (hA : At w p b s m) (hm : m ≤ 800000) (hF : Fns w G (four X F E I C ++ [((39, #[.pointer (some ⟨O, 0, none⟩)]) : FuncId × Array Value)]))
    (hC : Cau w p h n a l X F E I g C d) (hO : Has w O 60 (hv p h n)) (r : Room4 s h n a l) :
    Calls Tryz.prog 51 #[.slice (some ⟨G, 0, none⟩) 5 c] w fun e w' => e = .returned (.int .i64 (runW s (layW s.B l (1 + h * n + a) (1 + h * n + n) ++ [(0, mark0 h)])).2) ∧ At w' p b (runW s (layW s.B l (1 + h * n + a) (1 + h * n + n) ++ [(0, mark0 h)])).1 (m + 10000) ∧ But p b w w' := by
  have hok := five_ok (p := p) (b := b) (O := O) r (fun W => Cau W p h n a l X F E I g C d ∧ Has W O 60 (hv p h n)) (fun W k => k)
  have hl : (ls4 s.B (h * n) n a l ++ [[(0, mark0 h)]]).length = (four X F E I C ++ [((39, #[.pointer (some ⟨O, 0, none⟩)]) : FuncId × Array Value)]).length := by simp [ls4, four]
  have hq := inOrder_any w p b G c s m _ _ _ hl (by simp [four]) hA hm hF ⟨hC, hO⟩ (fun W W' s' m' q k bt => ⟨k.1.but q bt, bt.hasT q k.2 (by decide) (by decide)⟩) hok
  have hf : (ls4 s.B (h * n) n a l ++ [[(0, mark0 h)]]).flatten = layW s.B l (1 + h * n + a) (1 + h * n + n) ++ [(0, mark0 h)] := by
    rw [List.flatten_append, ls4_flat]
    simp
  rw [hf, show (four X F E I C ++ [((39, #[.pointer (some ⟨O, 0, none⟩)]) : FuncId × Array Value)]).length = 5 by simp [four]] at hq
  exact hq
set_option maxRecDepth 100000 in
set_option maxHeartbeats 1000000 in
theorem lay_one (w : World) (J p b h n u : Nat) (h' : Nat) (a : Nat) (t x : ByteArray) (v : Value) (s : SS) (m : Int) (hJ : Has w J 66 (jcs p h n u t v false)) (hA : At w p b s m) (hm : m ≤ 800000)
    (r : Room4 s h' n a x.data.toList) (hT : Tb w) (M O : Nat) (hM : Has w M 101 #[fnV (39, #[.pointer (some ⟨O, 0, none⟩)])]) (hO : Has w O 60 (hv p h' n)) :
    Calls Tryz.prog 35 #[.pointer (some ⟨J, 0, none⟩), .agg (hv p h' n), .int .i64 (a : Int), .string x, .slice (some ⟨M, 0, none⟩) 1 1] w
      (LayD w J p b h n u t v (runW s (layW s.B x.data.toList (1 + h' * n + a) (1 + h' * n + n) ++ [(0, mark0 h')])) (m + 10000)) := by
  have hx : x.size ≤ 40000 := by have := r.hl; rwa [list_size] at this
  have hr : a + nb x.size ≤ n := by have := r.ha; rwa [list_size] at this
  have HC : Hid (∀ W : World, Below w.heap.size w W → Calls Tryz.prog 50 #[.agg #[.pointer (some ⟨p, 0, none⟩), .int .i64 (h' : Int), .int .i64 (n : Int)], .int .i64 (a : Int), .string x] W (Laid W p h' n a x)) := fun W hb =>
    laying_fine W p h' n a x hx r.hn hr (hT.up hb)
  obtain ⟨i0, hi, hz0, hz1, hz2⟩ := info_parts infoStep
  have HZI := Lib.hid (And.intro hi (And.intro hz0 (And.intro hz1 hz2)))
  have HM := Lib.hid hM
  have HO := Lib.hid hO
  clear hi hz0 hz1 hz2 hM hO
  have hzz := hJ.lt
  have c6 : w.cell? ⟨J, 6, none⟩ = some (.bool false) := hJ.cell 6
  have HJ := Lib.hid hJ
  have HA := Lib.hid hA
  have HR := Lib.hid r
  clear hJ hA r hT hx hr
  unfold hv
  go_enter Tryz.func35, Tryz.ntmps35
  go_wp2_with fail
  refine (HC.out _ (boxed _ _)).mono ?_
  rintro e w1 ⟨X, F, E, I, g, C, c, G, rfl, lG, hG, hc, hb1⟩
  have hB1 := Lib.hid (lots (boxed w (.cells #[.pointer (some ⟨p, 0, none⟩), .int .i64 (h' : Int), .int .i64 (n : Int)] 60)) hb1)
  have hG1 := Lib.hid hG
  have LG := Lib.hid (show w.heap.size ≤ G by simp at lG; omega)
  have HCau := Lib.hid hc
  have A1 := Lib.hid (HA.out.up hB1.out)
  have J1 := Lib.hid (HJ.out.up hB1.out)
  clear lG hG hc hb1 HC
  have own1 := hG1.out.own (B := 0) (Nat.zero_le _) (by simp [four]; unfold maxLen; omega)
  obtain ⟨V, hV⟩ : ∃ V, V = Value.slice (some ⟨G, 0, none⟩) 4 4 := ⟨_, rfl⟩
  have HOw : Hid (w1.ownsRow 0 101 1 V 4 ((four X F E I C).map fnV)) := by rw [hV]; exact own1
  have HVo : Hid (V.ownBlock = some G) := by rw [hV]; rfl
  rw [← hV]
  clear hV
  have M1 := HM.out.up hB1.out
  have hlt1 : G < w1.heap.size := hG1.out.lt
  clear own1
  have HST : Hid (∀ (v' : Value) (w' : World), w'.ownsRow 0 101 1 v' (4 + 1) ((four X F E I C).map fnV ++ [fnV ((39, #[.pointer (some ⟨O, 0, none⟩)]) : FuncId × Array Value)]) → w1.grownBy w' V.ownBlock →
      ∃ G' c', v' = .slice (some ⟨G', 0, none⟩) 5 c' ∧ Fns w' G' (four X F E I C ++ [((39, #[.pointer (some ⟨O, 0, none⟩)]) : FuncId × Array Value)]) ∧ Turn (fun k => k = G) w1 w') := fun v' w' ho hg => by
    rw [HVo.out] at hg
    rcases ho.2 with ⟨_, z⟩ | ⟨G', c', cur, rfl, _, hh, _, _, _, hk⟩
    · exact absurd z (by decide)
    · refine ⟨G', c', rfl, ⟨cur, hh, fun i f hf => ?_⟩, ⟨hg.os, hg.tape, hg.output, hg.size, fun k h1 h2 => hg.block k h1 (fun e => h2 (Option.some.inj e))⟩⟩
      have hi : i < 5 := by
        by_cases q : i < 5
        · exact q
        · rw [List.getElem?_eq_none (by simp [four]; omega)] at hf; cases hf
      have h3 : (cur.toList.take ((4 + 1) * 1))[i]? = some (fnV f) := by
        rw [hk, show (four X F E I C).map fnV ++ [fnV ((39, #[.pointer (some ⟨O, 0, none⟩)]) : FuncId × Array Value)] = (four X F E I C ++ [((39, #[.pointer (some ⟨O, 0, none⟩)]) : FuncId × Array Value)]).map fnV by simp, List.getElem?_map, hf]; rfl
      rw [List.getElem?_take_of_lt (by omega), Array.getElem?_toList] at h3
      exact h3
  go_wp2_with (first | (at_builtin; refine wpList_append_own _ rfl (.tmp 27) (.tmp 28) 91 rfl 0 101 i0 .nilFunc 1 8 Tryz.underlying91 HZI.out.1 HZI.out.2.1 HZI.out.2.2.1 HZI.out.2.2.2 rfl (by decide) _ _ _ rfl HOw.out ⟨M, 0, none⟩ 1 1 [fnV ((39, #[.pointer (some ⟨O, 0, none⟩)]) : FuncId × Array Value)] rfl rfl ?c1 ?c2 ?c3 ?c4 ?c5 ?_))
  case c1 =>
    intro j y e
    cases j with
    | zero => simp at e; subst e; exact M1.cell 0
    | succ j => simp at e
  case c2 => intro y hy; simp at hy; subst hy; rfl
  case c3 => unfold maxLen; omega
  case c4 => omega
  case c5 => exact Nat.zero_le _
  intro v' w2a ho hg _
  obtain ⟨G', c', rfl, hF5, hT5⟩ := HST.out v' w2a ho hg
  have A2a : At w2a p b s m := by
    have hn := A1.out.st.nbox hG1.out (by decide) (by decide)
    obtain ⟨cs, hcs, hls⟩ := A1.out.st.row
    exact ⟨⟨hT5.has A1.out.st.head (fun e => hn.1 e.symm), cs, hT5.has hcs (fun e => hn.2 e.symm), hls⟩, A1.out.fine⟩
  have J2a : Has w2a J 66 (jcs p h n u t v false) := hT5.has J1.out (fun e => hG1.out.ne J1.out (by decide) e.symm)
  have O2a : Has w2a O 60 (hv p h' n) := hT5.has (HO.out.up hB1.out) (fun e => hG1.out.ne (HO.out.up hB1.out) (by decide) e.symm)
  have C2a : Cau w2a p h' n a x.data.toList X F E I g C c := by
    have q := HCau.out
    exact ⟨hT5.has q.hx (fun e => hG1.out.ne q.hx (by decide) e.symm), hT5.has q.hf (fun e => hG1.out.ne q.hf (by decide) e.symm), hT5.has q.he (fun e => hG1.out.ne q.he (by decide) e.symm), hT5.has q.hi (fun e => hG1.out.ne q.hi (by decide) e.symm), hT5.has q.hir (fun e => hG1.out.ne q.hir (by decide) e.symm), hT5.has q.hc (fun e => hG1.out.ne q.hc (by decide) e.symm), hT5.has q.hcr (fun e => hG1.out.ne q.hcr (by decide) e.symm)⟩
  have T2a := Lib.hid (Turn.of (fun k => k = J ∨ k = p ∨ k = b) (hT5.past hB1.out LG.out))
  have AA := Lib.hid A2a
  have JJ := Lib.hid J2a
  have HK := Lib.hid (order_five (c := c') A2a hm hF5 C2a O2a HR.out)
  clear ho hg hF5 hT5 A2a J2a O2a C2a M1 hlt1
  go_wp2_with fail
  refine HK.out.mono ?_
  rintro e w2 ⟨rfl, hA2, hb2⟩
  obtain ⟨S, hS⟩ : ∃ S, S = runW s (layW s.B x.data.toList (1 + h' * n + a) (1 + h' * n + n) ++ [(0, mark0 h')]) := ⟨_, rfl⟩
  rw [← hS] at hA2 ⊢
  have A2 := Lib.hid hA2
  have j2 := hb2.hasT AA.out JJ.out (by decide) (by decide)
  have J2 := Lib.hid j2
  have T2 := Lib.hid (T2a.out.trans hb2.lay)
  have d6 : w2.cell? ⟨J, 6, none⟩ = some (.bool false) := j2.cell 6
  have f6 := j2.free 6
  obtain ⟨E, hE⟩ : ∃ E, E = S.2 := ⟨_, rfl⟩
  rw [← hE]
  have HE := Lib.hid hE
  have HS := Lib.hid hS
  clear hA2 hb2 hS j2 c6 hE
  go_wp2
  go_ret
  have hp : Has (w2.setCell ⟨J, 6, none⟩ (.bool (E != 0))) J 66 (jcs p h n u t v (E != 0)) := J2.out.put 6 _
  have hn := A2.out.st.nbox J2.out (by decide) (by decide)
  rw [← HS.out]
  refine ⟨?_, ⟨A2.out.st.off hn.1 hn.2 _, A2.out.fine⟩, by rw [← HE.out]; exact hp, T2.out.put (.inl rfl) _⟩
  show Ending.returned (.int .i64 E) = _
  rw [HE.out]
end Go.Proofs.YtjffcgimdffkoaaGreatDoor
