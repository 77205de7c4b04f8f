/- Post, let in. -/
import Derived.Test.YtginbgclifdfiaaAcT
namespace Go.Proofs.Ytginbgclifdfiaa
open Go.RowKit

section
variable {w w' : World} {p m : Nat} {S : Ld} {f : Int → Int → Int → Int} {ve : Value} {vs : List Value} {rows : List (Int × Int × Nat)} {O : Nat → Prop}
/-- behind Clone, in the last region -/
def ClnS (W : World) (p : Nat) (ve : Value) (ps : List Po) (v : Value) (w1 : World) : Prop := w1.ownsRow W.heap.size 48 3 v ps.length (flat ps) ∧ Below W.heap.size W w1 ∧ w1.cell? ⟨p, 2, none⟩ = some ve
set_option maxRecDepth 100000 in
set_option maxHeartbeats 8000000 in
theorem post_ok (q : Int) (a : Option Addr) (n cap : Nat) (ps : List Po) (h : Lg w p S O) (hp : PsA w a ps) (hn : ps.length = n) (hm : Ams ps) (hE : refE S q ps = 0) (ho : overB S q ps = false) (hPO : PsO O a ps) :
    Calls Try.prog 26 #[.pointer (some ⟨p, 0, none⟩), .int .i64 q, .slice a n cap] w (PostR w p S O q ps) := by
  obtain ⟨e1, e2, e3⟩ := postE_ok hE ho
  have hFp : Fine (posted S q ps) := fine_posted h.fine (fun x hx => (hm x hx).2.2) e1
  obtain ⟨q0, q1, hw⟩ := refE_zero hE
  obtain ⟨k, rfl⟩ : ∃ k : Nat, q = k := ⟨q.toNat, by omega⟩
  have hwell := well_iff.1 hw
  have hk : k < S.n := by omega
  obtain ⟨ad, rfl⟩ : ∃ ad, a = some ad := by
    rcases hp with rfl | ⟨b, o, rfl, _⟩
    · simp at hwell
    · exact ⟨_, rfl⟩
  have HRef := Lib.hid (refuse_any (k : Int) (some ad) n cap ps h hp hn hm)
  rw [hE] at HRef
  have HAf : Hid (∀ W, Below w.heap.size w W → Calls Try.prog 43 #[.pointer (some ⟨p, 0, none⟩), .int .i64 (k : Int), .slice (some ad) n cap] W (AftR W S k ps)) := fun W hb =>
    after_any k (some ad) n cap ps (h.up hb) hk (hp.up hb) hn (by omega) (by omega) hm
  have HL := Lib.hid h
  have HO := Lib.hid ho
  have HP := Lib.hid hp
  have HPO := Lib.hid hPO
  have HM := Lib.hid hm
  have HN := Lib.hid hn
  have HF := Lib.hid hFp
  have HWl : Hid (1 ≤ n ∧ n ≤ 32) := ⟨by omega, by omega⟩
  obtain ⟨m, ve, vs, rows, hlw, hin, _⟩ := h
  have HLw := Lib.hid hlw
  have HIn := Lib.hid hin
  unfold PostR
  rw [e1, e2, e3]
  clear hp hPO hn hm hE e1 e2 e3 ho hwell hw hlw hin hFp
  go_enter Try.func26, Try.ntmps26
  go_wp2_with fail
  refine HRef.out.mono ?_
  rintro e w1 ⟨rfl, hb⟩
  have HB := Lib.hid hb
  clear hb
  go_wp2_with fail
  refine (HAf.out w1 HB.out).mono ?_
  rintro e w2 ⟨hr, hb⟩
  have HB2 := Lib.hid (up2 HB.out hb)
  obtain ⟨rfl, l, hmp, hA⟩ : e = .returned (.tuple #[.map (some w1.heap.size), .int .i64 0]) ∧ ∃ l, Mp Try.prog 73 w2 w1.heap.size l ∧ Aft S k ps l := by
    rcases hr with ⟨h, _⟩ | ⟨_, h1, h2⟩
    · rw [HO.out] at h; cases h
    · exact ⟨h1, h2⟩
  obtain ⟨wi, hrange, hit, hbi, hsz⟩ := Mp.range Try.underlying86 hmp
  have hPW : PoW w wi p S k ps m ve vs O w1.heap.size w2.heap.size l l (fun a c q => rng a c q q S.L) rows :=
    PoW.first hit (HLw.out.up (up2 HB2.out hbi)) (Kp.of (up2 HB2.out hbi)) HIn.out.rows hA
  have HPW := Lib.hid hPW
  have HA := Lib.hid hA
  have hmM : m ≠ w1.heap.size := by have h1 := HLw.out.tbl.map.lt; have := HB.out.size; omega
  have HmM := Lib.hid hmM
  have HS2 := Lib.hid HB2.out.size
  clear hb hr hmp hit hbi hsz hPW hA hmM
  go_wp2_with fail
  go_loopw [11, 12] (fun _ _ wr => ∃ todo g rows', PoW w wr p S k ps m ve vs O w1.heap.size w2.heap.size l todo g rows') (fun _ _ wr => wr.rangeLeft w1.heap.size w2.heap.size)
  case atStart => exact ⟨_, _, _, HPW.out⟩
  case round =>
    obtain ⟨todo, g, rows', hW⟩ := hrel
    have HWr := Lib.hid hW
    clear hrange
    rcases hW.it.next 0 with ⟨hT, hnext⟩ | ⟨t1, key, v, t2, w3, hT, hnext, hit, hg, hs, hent⟩
    · subst hT
      have hgl := hW.last
      subst hgl
      have hlen : (posted S k ps).L.length = S.L.length + 1 := by show (S.L ++ [_]).length = _; simp
      have hfew : S.L.length + 1 ≤ 5000 := by have := HF.out.few; rw [hlen] at this; exact this
      obtain ⟨av, capv, hve⟩ := own_form9 hW.lgw.ents
      have c2 := hW.lgw.lc.2.2.1
      have hpw := HP.out.keep hW.kp HPO.out
      have HCl : Hid (Calls Try.prog 38 #[.slice (some ad) n cap] wr.drew fun e w' => ∃ v, e = .returned v ∧ ClnS wr p ve ps v w') := by
        refine (clone_any ad n cap ps (hpw.drew) HN.out (HWl.out.1) (by have := HWl.out.2; omega)).mono ?_
        rintro e w5 ⟨v, rfl, h1, h2⟩
        rw [← HN.out] at h1
        have hb : Below wr.heap.size wr w5 := (Below.refl _ _).drew.trans h2
        exact ⟨v, rfl, h1, hb, kcell hb c2⟩
      have HPush : Hid (∀ v1 w5, ClnS wr p ve ps v1 w5 → ∃ v' w6, (Builtin.append_ #[61, 61] 61 #[ve, .slice (some ⟨w5.heap.size, 0, none⟩) 1 1]).run Try.prog (w5.alloc (.cells #[.int .i64 (k : Int), v1, .bool false] 77)) = .ok v' w6 ∧ PushR wr p (posted S k ps) m ve vs rows' v1 v' w6) := fun v1 w5 h5 =>
        hW.lgw.push 61 HF.out rfl h5.2.1 h5.1
      have HLw2 := Lib.hid hW.lgw
      have HKp := Lib.hid hW.kp
      have HRw := Lib.hid hW.rows
      subst hve
      have e9 : IntKind.i64.wrap ((S.L.length : Int) + 1 - 1) = (S.L.length : Int) := by rw [show (S.L.length : Int) + 1 - 1 = (S.L.length : Int) by omega]; exact IntWalk.i64_in _ (by omega)
      have e10 : IntKind.i64.wrap (S.L.length : Int) = (S.L.length : Int) := IntWalk.i64_in _ (by omega)
      have HLen := Lib.hid hlen
      clear hW hpw hlen
      go_wp2_with fail
      go_region_law (first
        | (refine step_calls rfl 38 #[.slice (some ad) n cap] (by go_simp) HCl.out ?_; intro v1 w5 h5; obtain ⟨a1, q1, rfl⟩ := own_form9 h5.1; obtain ⟨v', w6, happ, hpush⟩ := HPush.out _ w5 h5; obtain ⟨A1, C1, hform⟩ := hpush.form; rw [HLen.out] at hform; subst hform; have d2 : w5.cell? ⟨p, 2, none⟩ = some (.slice av S.L.length capv) := h5.2.2; have d3 := cAlloc (o := .cells #[.int .i64 (k : Int), .slice a1 ps.length q1, .bool false] 77) d2; have HApp := Lib.hid happ; have HPu := Lib.hid hpush; have g2 := hpush.cell; have gf := hpush.free; have HC5 := Lib.hid h5; clear h5 happ hpush)
        | (refine step_run (by rfl) (.tmp 46) (.tmp 51) 61 (by rfl) _ _ (by rfl) (by rfl) (S := fun u q => u = .slice A1 (S.L.length + 1) C1 ∧ q = w6) ⟨_, w6, HApp.out, rfl, rfl⟩ ?_; rintro u q ⟨rfl, rfl⟩))
      all_goals
        clear d2 d3 c2
        go_wp2_with fail
        go_ret2
        have hsz := HKp.out.size
        refine ⟨rfl, LgR.of HL.out HPu.out.lgw ⟨.inl HIn.out.p, .inl HIn.out.m, fun j hj => ?_, fun v hv j hj => ?_, HRw.out⟩ (HKp.out.trans HPu.out.kp ?_)⟩
        · rcases HPu.out.blk j hj with h | h
          · exact .inl (HIn.out.ve j h)
          · exact .inr (Nat.le_trans hsz h)
        · rcases List.mem_append.1 hv with h | h
          · exact .inl (HIn.out.vs v h j hj)
          · rw [List.mem_singleton.1 h] at hj
            exact .inr (Nat.le_trans hsz (World.ownsRow.lt HC5.out.1 j hj).1)
        · rintro b (rfl | h)
          · exact .inl HIn.out.p
          · exact .inl (HIn.out.ve b h)
    · obtain ⟨x, hx, hkv⟩ := HA.out.of (key, v) (hW.it.sub _ (by rw [hT]; simp))
      injection hkv with hk1 hk2
      subst hk1; subst hk2
      have hamx := HM.out x hx
      obtain ⟨W1, hW1⟩ : ∃ W1, W1 = w3.alloc (.cells #[.int .i64 x.a, .int .i64 x.c] 73) := ⟨_, rfl⟩
      have hb1 : Below w3.heap.size w3 W1 := by rw [hW1]; exact boxed _ _
      have hX : Has W1 w3.heap.size 73 #[.int .i64 x.a, .int .i64 x.c] := by rw [hW1]; exact Has.fresh _ _ _
      have x0 : W1.cell? ⟨w3.heap.size, 0, none⟩ = some (.int .i64 x.a) := hX.cell 0
      have x1 : W1.cell? ⟨w3.heap.size, 1, none⟩ = some (.int .i64 x.c) := hX.cell 1
      have hmv := move_any x.a x.c k (mvA S k ps x.a x.c) ((hW.lgw.iter hW.it hg).up hb1) hamx.1 hamx.2.1 hk
      have HMv := Lib.hid hmv
      unfold plV at HMv
      have HStep : Hid (∀ e w4, MovR W1 p S g m ve vs rows' x.a x.c k (mvA S k ps x.a x.c) e w4 → ∃ g' rows', PoW w w4 p S k ps m ve vs O w1.heap.size w2.heap.size l (t1 ++ t2) g' rows') := fun e w4 h4 =>
        hW.step HIn.out.m HmM.out hT hx hit hg HS2.out hb1 h4
      have HW1 := Lib.hid hW1
      have HLt : Hid (t1.length + t2.length < todo.length) := by show _ < _; rw [hT]; simp
      unfold plV at hnext hent
      clear hW hT hit hg hs hb1 hX hmv hW1 hamx hx
      go_wp2_with fail
      rw [← HW1.out]
      refine HMv.out.mono ?_
      rintro e w4 h4
      have H4 := Lib.hid (HStep.out e w4 h4)
      obtain ⟨rfl, _⟩ := h4
      clear x0 x1 hnext hent
      go_wp2_with fail
      go_roundw
      case rel =>
        obtain ⟨g', rows', h⟩ := H4.out
        exact ⟨_, g', rows', h⟩
      case measure =>
        obtain ⟨g', rows', h⟩ := H4.out
        rw [h.it.left, HWr.out.it.left, List.length_append]
        exact HLt.out
theorem post_any (q : Int) (a : Option Addr) (n cap : Nat) (ps : List Po) (h : Lg w p S O) (hp : PsA w a ps) (hn : ps.length = n) (hm : Ams ps) (hPO : PsO O a ps) :
    Calls Try.prog 26 #[.pointer (some ⟨p, 0, none⟩), .int .i64 q, .slice a n cap] w (PostR w p S O q ps) := by
  by_cases hE : refE S q ps = 0
  · cases ho : overB S q ps
    · exact post_ok q a n cap ps h hp hn hm hE ho hPO
    · exact post_over q a n cap ps h hp hn hm hE ho
  · exact post_not q a n cap ps h hp hn hm hE
end
end Go.Proofs.Ytginbgclifdfiaa
