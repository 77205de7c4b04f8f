/- Post. -/
import Derived.Test.YtginbgclifdfiaaAcS
namespace Go.Proofs.Ytginbgclifdfiaa
open Go.RowKit

section
variable {P : Program} {ops : Array Oper} {o : Oper} {a : Act} {w : World} {K : Act → World → Prop} {Q : Exit → Act → World → Prop} {E : Prop}
/-- a call in a region, by its contract -/
theorem step_calls (hgd : o.guard = none) (f : FuncId) (vs : Array Value) (hr : (execOp a.eval o).run P w = .ok (.enter f vs) w)
    {S : Value → World → Prop} (hc : Calls P f vs w fun e w' => ∃ v, e = .returned v ∧ S v w') (h : ∀ v w', S v w' → K (a.put o.dst v) w') :
    if Region.wanted o (yielded ops a.tmps) = true then Oper.wp P o a w K Q else E := by
  have hw : Region.wanted o (yielded ops a.tmps) = true := by simp [Region.wanted, hgd]
  rw [if_pos hw]
  unfold Oper.wp
  rw [hr]
  show Calls P f vs w _
  refine hc.mono ?_
  rintro e w' ⟨v, rfl, hs⟩
  exact h v w' hs
end

section
variable {w w' : World} {p m : Nat} {S : Ld} {f : Int → Int → Int → Int} {ve : Value} {vs : List Value} {rows : List (Int × Int × Nat)} {O : Nat → Prop}
theorem In9.mono {O' : Nat → Prop} (h : In9 O p m ve vs rows) (hs : ∀ b, O b → O' b) : In9 O' p m ve vs rows :=
  ⟨hs _ h.p, hs _ h.m, fun g hg => hs _ (h.ve g hg), fun v hv g hg => hs _ (h.vs v hv g hg), fun x hx => hs _ (h.rows x hx)⟩
/-- these, and all new ones -/
abbrev Nw (O : Nat → Prop) (w w' : World) : Nat → Prop := fun b => O b ∨ (w.heap.size ≤ b ∧ b < w'.heap.size)
/-- the ledger goes on as S', and nothing else has turned -/
def LgR (w : World) (p : Nat) (O : Nat → Prop) (S' : Ld) (w' : World) : Prop := Lg w' p S' (Nw O w w') ∧ Kp O w w'
theorem LgR.of {S' : Ld} (h0 : Lg w p S O) (h : Lgw w' p S' (fun a c q => rng a c q q S'.L) m ve vs rows) (hi : In9 (fun b => O b ∨ w.heap.size ≤ b) p m ve vs rows) (hk : Kp O w w') : LgR w p O S' w' := by
  have lt : ∀ b, (O b ∨ w.heap.size ≤ b) → b < w'.heap.size → Nw O w w' b := fun b h1 h2 => h1.imp id fun h => ⟨h, h2⟩
  refine ⟨⟨m, ve, vs, rows, h, ⟨lt _ hi.p h.head.lt, lt _ hi.m h.tbl.map.lt, fun g hg => lt _ (hi.ve g hg) (own_ltb h.ents hg), fun v hv g hg => ?_, fun x hx => lt _ (hi.rows x hx) (h.tbl.row x hx).lt⟩, fun b hb => ?_⟩, hk⟩
  · obtain ⟨i, hiv⟩ := List.getElem?_of_mem hv
    have hl : i < S'.L.length := by have := (List.getElem?_eq_some_iff.1 hiv).1; rw [h.lens] at this; exact this
    exact lt _ (hi.vs v hv g hg) (own_ltb (h.each i _ v (List.getElem?_eq_getElem hl) hiv) hg)
  · rcases hb with hb | hb
    · exact Nat.lt_of_lt_of_le (h0.bd b hb) hk.size
    · exact hb.2
def PostR (w : World) (p : Nat) (S : Ld) (O : Nat → Prop) (q : Int) (ps : List Po) (e : Ending) (w' : World) : Prop :=
  e = .returned (.tuple #[.int .i64 (postN S q ps), .int .i64 (postE S q ps)]) ∧ LgR w p O (postS S q ps) w'
theorem LgR.same (h : Lg w p S O) (hb : Below w.heap.size w w') : LgR w p O S w' := by
  have h0 := h
  obtain ⟨m, ve, vs, rows, h1, h2, _⟩ := h
  exact LgR.of h0 (h1.up hb) (h2.mono fun b hb => .inl hb) (Kp.of hb)
/-- an address in none of these, if anything lies there -/
def PsO (O : Nat → Prop) (a : Option Addr) (ps : List Po) : Prop := ps ≠ [] → ∀ ad, a = some ad → ¬ O ad.block
theorem PsA.keep {a : Option Addr} {ps : List Po} (h : PsA w a ps) (hk : Kp O w w') (hO : PsO O a ps) : PsA w' a ps := by
  rcases h with h | ⟨b, o, rfl, h⟩
  · exact .inl h
  · refine .inr ⟨b, o, rfl, fun i x hx => ?_⟩
    have hb := hO (fun e => by rw [e] at hx; simp at hx) _ rfl
    have one : ∀ {j : Nat} {v : Value}, w.cell? ⟨b, j, none⟩ = some v → w'.cell? ⟨b, j, none⟩ = some v := fun {j v} hc => by
      have hl := World.block_lt_of_cell? (a := ⟨b, j, none⟩) _ hc
      rw [World.cell?_of_block (w := w) (hk.block b hl hb)]; exact hc
    exact ⟨one (h i x hx).1, one (h i x hx).2.1, one (h i x hx).2.2⟩

/-- on the way through the movements -/
structure PoW (w0 wr : World) (p : Nat) (S : Ld) (k : Nat) (ps : List Po) (m : Nat) (ve : Value) (vs : List Value) (O : Nat → Prop) (M r : Nat) (l todo : List (Value × Value)) (g : Int → Int → Int → Int) (rows : List (Int × Int × Nat)) : Prop where
  it : It Try.prog 73 wr M r l todo
  lgw : Lgw wr p S g m ve vs rows
  kp : Kp O w0 wr
  rows : ∀ y ∈ rows, O y.2.2 ∨ w0.heap.size ≤ y.2.2
  t1 : ∀ a c q, q ≠ (k : Int) → g a c q = rng a c q q S.L
  t2 : ∀ x ∈ ps, (plV x.a x.c, .int .i64 (mvA S k ps x.a x.c)) ∉ todo → g x.a x.c k = mvA S k ps x.a x.c
  t3 : ∀ a c, (∀ x ∈ ps, ¬ (x.a = a ∧ x.c = c)) → g a c k = rng a c k k S.L
theorem It.iter {P : Program} {k : Nat} {b r : Nat} {l todo : List (Value × Value)} (h : It P k w b r l todo) {g t : Nat} {cs : Array Value} (hg : Has w g t cs) : r ≠ g := by
  obtain ⟨es, c, s, se, c0, _, _, h2, _⟩ := h
  intro e; subst e
  unfold Has at hg; rw [h2] at hg; cases hg
theorem It.iterm {P P' : Program} {k k' : Nat} {b r : Nat} {l todo : List (Value × Value)} (h : It P k w b r l todo) {m : Nat} {l' : List (Value × Value)} (hm : Mp P' k' w m l') : r ≠ m := by
  obtain ⟨es, c, s, se, c0, _, _, h2, _⟩ := h
  obtain ⟨es', c', h3, _⟩ := hm
  intro e; subst e
  rw [h3.heap] at h2; cases h2
theorem own_iter {base e size n : Nat} {v : Value} {xs : List Value} (h : w.ownsRow base e size v n xs) {P : Program} {k b r : Nat} {l todo : List (Value × Value)} (hi : It P k w b r l todo) : ∀ j, v.ownBlock = some j → j ≠ r := by
  intro j hj q
  subst q
  rcases h.2 with ⟨rfl, _⟩ | ⟨g', cap, cur, rfl, _, hh, _⟩
  · cases hj
  · injection hj with hj
    have hj' : g' = j := hj
    subst hj'
    obtain ⟨es, c, s, se, c0, _, _, h2, _⟩ := hi
    rw [h2] at hh; cases hh
theorem Lgw.iter (h : Lgw w p S f m ve vs rows) {P : Program} {k b r : Nat} {l todo : List (Value × Value)} (hi : It P k w b r l todo) (hg : w.grownBy w' (some r)) : Lgw w' p S f m ve vs rows := by
  have kp : ∀ b, b < w.heap.size → b ≠ r → w'.heap[b]? = w.heap[b]? := fun b hb hne => hg.block b hb (fun e => hne (by injection e))
  refine ⟨(kp p h.head.lt (fun e => hi.iter h.head e.symm)).trans h.head, own_keep h.ents fun g hgv => kp g (own_ltb h.ents hgv) (own_iter h.ents hi g hgv), h.lens, fun i e v he hv => ?_, h.tbl.keep (kp m h.tbl.map.lt (fun e => hi.iterm h.tbl.map e.symm)) fun x hx => kp _ (h.tbl.row x hx).lt (fun e => hi.iter (h.tbl.row x hx) e.symm), h.fine⟩
  have := h.each i e v he hv
  exact own_keep this fun g hgv => kp g (own_ltb this hgv) (own_iter this hi g hgv)
/-- one movement more is laid -/
theorem PoW.step {w0 wr w1 w2 W1 : World} {k M r : Nat} {ps : List Po} {l t1 t2 : List (Value × Value)} {g : Int → Int → Int → Int} {x : Po} {todo : List (Value × Value)} {e : Ending}
    (h : PoW w0 wr p S k ps m ve vs O M r l todo g rows) (hO : O m) (hM : m ≠ M) (ht : todo = t1 ++ (plV x.a x.c, .int .i64 (mvA S k ps x.a x.c)) :: t2) (hx : x ∈ ps)
    (hit : It Try.prog 73 w1 M r l (t1 ++ t2)) (hg : wr.grownBy w1 (some r)) (hr0 : w0.heap.size ≤ r) (hb : Below w1.heap.size w1 W1)
    (hlw : MovR W1 p S g m ve vs rows x.a x.c k (mvA S k ps x.a x.c) e w2) :
    ∃ g' rows', PoW w0 w2 p S k ps m ve vs O M r l (t1 ++ t2) g' rows' := by
  obtain ⟨rfl, rows', hl2, kp2, hrows⟩ := hlw
  have hlW : Lgw W1 p S g m ve vs rows := (h.lgw.iter h.it hg).up hb
  have hitW := hit.up hb
  have kpW : Kp O w0 W1 := (h.kp.trans (Kp.grown (O := fun b => b = r) hg (fun j hj => by injection hj with hj; exact .inl hj.symm)) (fun b hb => .inr (by omega))).trans (O' := fun _ => False) (Kp.of hb) (fun b hb => hb.elim)
  refine ⟨updF g x.a x.c k (mvA S k ps x.a x.c), rows', ?_, hl2, ?_, fun y hy => ?_, fun a c q hq => ?_, fun y hy hn => ?_, fun a c hn => ?_⟩
  · refine hitW.keep (kp2.block M hitW.mp.lt ?_) (kp2.block r hitW.ltr ?_)
    · rintro (e | ⟨y, hy, e⟩)
      · exact hM e.symm
      · exact has_map (hlW.tbl.row y hy) hitW.mp e.symm
    · rintro (e | ⟨y, hy, e⟩)
      · exact hitW.iterm hlW.tbl.map e
      · exact hitW.iter (hlW.tbl.row y hy) e
  · refine kpW.trans kp2 ?_
    rintro b (rfl | ⟨y, hy, rfl⟩)
    · exact .inl hO
    · exact h.rows y hy
  · rcases hrows y hy with h1 | h1
    · exact h.rows y h1
    · exact .inr (Nat.le_trans kpW.size h1)
  · unfold updF
    rw [if_neg (fun e => hq e.2.2)]
    exact h.t1 a c q hq
  · unfold updF
    by_cases e : y.a = x.a ∧ y.c = x.c
    · rw [if_pos ⟨e.1, e.2, rfl⟩, e.1, e.2]
    · rw [if_neg (fun q => e ⟨q.1, q.2.1⟩)]
      refine h.t2 y hy (fun hin => hn ?_)
      rw [ht] at hin
      rcases List.mem_append.1 hin with h1 | h1
      · simp [h1]
      · rcases List.mem_cons.1 h1 with h1 | h1
        · exfalso
          injection h1 with h1 _
          exact e (by
            have := ekP_inj (y.a, y.c) (x.a, x.c) h1
            injection this with e1 e2
            exact ⟨e1, e2⟩)
        · simp [h1]
  · unfold updF
    rw [if_neg (fun e => hn x hx ⟨e.1.symm, e.2.1.symm⟩)]
    exact h.t3 a c hn
theorem PoW.last {w0 wr : World} {k M r : Nat} {ps : List Po} {l : List (Value × Value)} {g : Int → Int → Int → Int} (h : PoW w0 wr p S k ps m ve vs O M r l [] g rows) : g = fun a c q => rng a c q q (posted S k ps).L := by
  funext a c q
  show _ = rng a c q q (S.L ++ [⟨(k : Int), ps, false⟩])
  rw [rng_append, rng_one]
  by_cases hq : q = k
  · subst hq
    rw [if_pos (by omega)]
    by_cases hx : ∃ x ∈ ps, x.a = a ∧ x.c = c
    · obtain ⟨x, hx, rfl, rfl⟩ := hx
      exact h.t2 x hx (by simp)
    · rw [h.t3 a c (fun x hx' e => hx ⟨x, hx', e⟩), sumP_none a c ps (fun x hx' e => hx ⟨x, hx', e⟩), Int.add_zero]
  · rw [h.t1 a c q hq, if_neg (by omega), Int.add_zero]
theorem PoW.first {w0 wr : World} {k M r : Nat} {ps : List Po} {l : List (Value × Value)} (hit : It Try.prog 73 wr M r l l) (hl : Lgw wr p S (fun a c q => rng a c q q S.L) m ve vs rows) (hk : Kp O w0 wr) (hr : ∀ y ∈ rows, O y.2.2) (hA : Aft S k ps l) :
    PoW w0 wr p S k ps m ve vs O M r l l (fun a c q => rng a c q q S.L) rows :=
  ⟨hit, hl, hk, fun y hy => .inl (hr y hy), fun _ _ _ _ => rfl, fun x hx hn => absurd (hA.all x hx) hn, fun _ _ _ => rfl⟩

theorem postE_not {q : Int} {ps : List Po} (h : refE S q ps ≠ 0) : postE S q ps = refE S q ps ∧ postN S q ps = 0 ∧ postS S q ps = S := by
  have e : postE S q ps = refE S q ps := by unfold postE; rw [if_pos h]
  refine ⟨e, ?_, ?_⟩
  · unfold postN; rw [e, if_neg h]
  · unfold postS; rw [e, if_neg h]
theorem refE_zero {q : Int} {ps : List Po} (h : refE S q ps = 0) : 0 ≤ q ∧ q < S.n ∧ wellB ps = true := by
  unfold refE at h
  by_cases h1 : q < 0 ∨ (S.n : Int) ≤ q ∨ wellB ps = false
  · rw [if_pos h1] at h; omega
  · have : wellB ps = true := by cases e : wellB ps <;> simp_all
    exact ⟨by omega, by omega, this⟩
theorem postE_over {q : Int} {ps : List Po} (h : refE S q ps = 0) (ho : overB S q ps = true) : postE S q ps = 3 ∧ postN S q ps = 0 ∧ postS S q ps = S := by
  have e : postE S q ps = 3 := by unfold postE; rw [if_neg (by rw [h]; simp), if_pos ho]
  refine ⟨e, ?_, ?_⟩
  · unfold postN; rw [e]; rfl
  · unfold postS; rw [e]; rfl
theorem postE_ok {q : Int} {ps : List Po} (h : refE S q ps = 0) (ho : overB S q ps = false) : postE S q ps = 0 ∧ postN S q ps = S.L.length ∧ postS S q ps = posted S q ps := by
  have e : postE S q ps = 0 := by unfold postE; rw [if_neg (by rw [h]; simp), if_neg (by rw [ho]; simp)]
  refine ⟨e, ?_, ?_⟩
  · unfold postN; rw [e]; rfl
  · unfold postS; rw [e]; rfl

set_option maxRecDepth 100000 in
set_option maxHeartbeats 4000000 in
theorem post_not (q : Int) (a : Option Addr) (n cap : Nat) (ps : List Po) (h : Lg w p S O) (hp : PsA w a ps) (hn : ps.length = n) (hm : Ams ps) (hE : refE S q ps ≠ 0) :
    Calls Try.prog 26 #[.pointer (some ⟨p, 0, none⟩), .int .i64 q, .slice a n cap] w (PostR w p S O q ps) := by
  obtain ⟨e1, e2, e3⟩ := postE_not hE
  have HRef := Lib.hid (refuse_any q a n cap ps h hp hn hm)
  have HL := Lib.hid h
  have hz : (refE S q ps != 0) = true := by simpa using hE
  unfold PostR
  rw [e1, e2, e3]
  clear h hp hn hm hE e1 e2 e3
  go_enter Try.func26, Try.ntmps26
  go_wp2_with fail
  refine HRef.out.mono ?_
  rintro e w1 ⟨rfl, hb⟩
  have HB := Lib.hid hb
  clear hb
  go_wp2_with fail
  go_ret2
  exact ⟨rfl, LgR.same HL.out HB.out⟩
set_option maxRecDepth 100000 in
set_option maxHeartbeats 4000000 in
theorem post_over (q : Int) (a : Option Addr) (n cap : Nat) (ps : List Po) (h : Lg w p S O) (hp : PsA w a ps) (hn : ps.length = n) (hm : Ams ps) (hE : refE S q ps = 0) (ho : overB S q ps = true) :
    Calls Try.prog 26 #[.pointer (some ⟨p, 0, none⟩), .int .i64 q, .slice a n cap] w (PostR w p S O q ps) := by
  obtain ⟨e1, e2, e3⟩ := postE_over hE ho
  obtain ⟨q0, q1, hw⟩ := refE_zero hE
  obtain ⟨k, rfl⟩ : ∃ k : Nat, q = k := ⟨q.toNat, by omega⟩
  have hwell := well_iff.1 hw
  have HRef := Lib.hid (refuse_any (k : Int) a n cap ps h hp hn hm)
  rw [hE] at HRef
  have HAf : Hid (∀ W, Below w.heap.size w W → Calls Try.prog 43 #[.pointer (some ⟨p, 0, none⟩), .int .i64 (k : Int), .slice a n cap] W (AftR W S k ps)) := fun W hb =>
    after_any k a n cap ps (h.up hb) (by omega) (hp.up hb) hn (by omega) (by omega) hm
  have HL := Lib.hid h
  have HO := Lib.hid ho
  unfold PostR
  rw [e1, e2, e3]
  clear h hp hn hm hE e1 e2 e3 ho hwell hw
  go_enter Try.func26, Try.ntmps26
  go_wp2_with fail
  refine HRef.out.mono ?_
  rintro e w1 ⟨rfl, hb⟩
  have HB := Lib.hid hb
  clear hb
  go_wp2_with fail
  refine (HAf.out w1 HB.out).mono ?_
  rintro e w2 ⟨hr, hb⟩
  have HB2 := Lib.hid (up2 HB.out hb)
  obtain rfl : e = .returned (.tuple #[.map none, .int .i64 3]) := by
    rcases hr with ⟨_, h⟩ | ⟨h, _⟩
    · exact h
    · rw [HO.out] at h; cases h
  clear hb hr
  go_wp2_with fail
  go_ret2
  exact ⟨rfl, LgR.same HL.out HB2.out⟩
end
end Go.Proofs.Ytginbgclifdfiaa
