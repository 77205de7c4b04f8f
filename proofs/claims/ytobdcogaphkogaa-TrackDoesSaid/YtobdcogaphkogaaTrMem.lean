/- A track in memory: in blocks of a set. -/
import Derived.Test.YtobdcogaphkogaaTrMath
import Derived.Test.YtobdcogaphkogaaKp
namespace Go.Proofs.Ytobdcogaphkogaa
open Go.RowKit

def spC (x : Sp) : List Value := [.int .i64 x.fr, .int .i64 x.og, .int .i64 x.ba, .int .i64 x.re]
theorem sp_len (x : Sp) : (spC x).length = 4 := rfl
theorem sp_one (l : List Sp) : ∀ u ∈ l.flatMap spC, u.oneCell' = true := fun u hu => by
  obtain ⟨x, _, hx⟩ := List.mem_flatMap.1 hu
  simp [spC] at hx
  rcases hx with rfl | rfl | rfl | rfl <;> rfl
abbrev SpA (w : World) (a : Option Addr) (l : List Sp) : Prop := Rws spC 4 w a l
theorem sp_at {w : World} {a : Option Addr} {l : List Sp} (h : SpA w a l) {j : Nat} {x : Sp} (hx : l[j]? = some x) : ∃ b o, a = some ⟨b, o, none⟩ ∧ w.cell? ⟨b, o + j * 4, none⟩ = some (.int .i64 x.fr) ∧ w.cell? ⟨b, o + j * 4 + 1, none⟩ = some (.int .i64 x.og) ∧ w.cell? ⟨b, o + j * 4 + 2, none⟩ = some (.int .i64 x.ba) ∧ w.cell? ⟨b, o + j * 4 + 3, none⟩ = some (.int .i64 x.re) := by
  rcases h with z | ⟨b, o, z, hz⟩
  · rw [z] at hx; simp at hx
  · exact ⟨b, o, z, hz j x hx 0 _ rfl, hz j x hx 1 _ rfl, hz j x hx 2 _ rfl, hz j x hx 3 _ rfl⟩
/-- blocks of other types than a track's stay -/
def Oth15 (w w' : World) : Prop := ∀ (g T : Nat) (cs : Array Value), Has w g T cs → T ≠ 84 → T ≠ 87 → T ≠ 51 → T ≠ 58 → Has w' g T cs
theorem Oth15.of {w w' : World} (h : Below w.heap.size w w') : Oth15 w w' := fun _ _ _ hh _ _ _ _ => hh.up h
theorem Oth15.refl (w : World) : Oth15 w w := fun _ _ _ hh _ _ _ _ => hh
theorem Oth15.trans {w w1 w2 : World} (h : Oth15 w w1) (h2 : Oth15 w1 w2) : Oth15 w w2 := fun g T cs hh a b c d => h2 g T cs (h g T cs hh a b c d) a b c d
theorem Oth15.own {w w' : World} (h : Oth15 w w') {B T z n : Nat} {v : Value} {xs : List Value} (ho : w.ownsRow B T z v n xs) (h1 : T ≠ 84) (h2 : T ≠ 87) (h3 : T ≠ 51) (h4 : T ≠ 58) : w'.ownsRow B T z v n xs := by
  refine ⟨ho.1, ?_⟩
  rcases ho.2 with q | ⟨g, cap, cur, e, q3, q4, q5⟩
  · exact .inl q
  · exact .inr ⟨g, cap, cur, e, q3, h g T cur q4 h1 h2 h3 h4, q5⟩
theorem Oth15.cell {w w' : World} (h : Oth15 w w') {b T : Nat} {cs : Array Value} (hh : Has w b T cs) (h1 : T ≠ 84) (h2 : T ≠ 87) (h3 : T ≠ 51) (h4 : T ≠ 58) {k : Nat} {v : Value} (hk : w.cell? ⟨b, k, none⟩ = some v) : w'.cell? ⟨b, k, none⟩ = some v := by
  rw [(h b T cs hh h1 h2 h3 h4).cell, ← hh.cell]; exact hk
/-- a row's block turns, of one of these types -/
theorem Oth15.row {w w' : World} {T B n z : Nat} {v : Value} {xs : List Value} (ho : w.ownsRow B T z v n xs) (hT : T = 84 ∨ T = 87 ∨ T = 51 ∨ T = 58) (q : w.grownBy w' v.ownBlock) : Oth15 w w' := fun g _ _ hh h1 h2 h3 h4 =>
  (q.block g hh.lt (fun e => own_ne ho hh (fun e2 => by subst e2; rcases hT with hT | hT | hT | hT <;> contradiction) e.symm)).trans hh
theorem Oth15.put {w : World} {p T : Nat} {cs : Array Value} (hp : Has w p T cs) (hT : T = 84 ∨ T = 87 ∨ T = 51 ∨ T = 58) (i : Nat) (v : Value) : Oth15 w (w.setCell ⟨p, i, none⟩ v) := fun g _ cs' hh h1 h2 h3 h4 =>
  ((grown_set w p i v).block g hh.lt (fun e => hh.ne hp (fun e2 => by subst e2; rcases hT with hT | hT | hT | hT <;> contradiction) (by injection e))).trans hh
/-- a track: its struct lies in block b, its log's in block p, all that may turn in blocks of O -/
structure TkX (w : World) (O : Nat → Prop) (b p : Nat) (d : Dt) (E : List Tl) (L : List Sp) (la : Option Addr) (lc : Nat) (tv sv : Value) : Prop where
  log : TgX w 0 p d E la lc tv
  has : Has w b 51 #[.pointer (some ⟨p, 0, none⟩), sv]
  own : w.ownsRow 0 58 4 sv L.length (L.flatMap spC)
  fine : FineS L
  inb : O b
  inp : O p
  int : ∀ g, tv.ownBlock = some g → O g
  ins : ∀ g, sv.ownBlock = some g → O g
  lt : ∀ g, O g → g < w.heap.size
  un : d.un ≤ 9223372036854775807
def Tk (w : World) (O : Nat → Prop) (b : Nat) (d : Dt) (E : List Tl) (L : List Sp) : Prop := ∃ p la lc tv sv, TkX w O b p d E L la lc tv sv
/-- a track goes on, and nothing else has turned -/
def TkR (w : World) (O : Nat → Prop) (b : Nat) (d : Dt) (E : List Tl) (L : List Sp) (w' : World) : Prop := Tk w' (Nw O w w') b d E L ∧ Kp O w w' ∧ Oth15 w w'
section
variable {w w' : World} {O O' : Nat → Prop} {b p : Nat} {d : Dt} {E : List Tl} {L : List Sp} {la : Option Addr} {lc : Nat} {tv sv : Value}
theorem TkX.up (h : TkX w O b p d E L la lc tv sv) (q : Below w.heap.size w w') : TkX w' O b p d E L la lc tv sv :=
  ⟨h.log.up q, h.has.up q, own_up h.own q, h.fine, h.inb, h.inp, h.int, h.ins, fun g hg => Nat.lt_of_lt_of_le (h.lt g hg) q.size, h.un⟩
theorem Tk.up (h : Tk w O b d E L) (q : Below w.heap.size w w') : Tk w' O b d E L := by obtain ⟨p, la, lc, tv, sv, h⟩ := h; exact ⟨p, la, lc, tv, sv, h.up q⟩
theorem Tk.fineS (h : Tk w O b d E L) : FineS L := by obtain ⟨p, la, lc, tv, sv, h⟩ := h; exact h.fine
theorem Tk.fineT (h : Tk w O b d E L) : FineT d E := by obtain ⟨p, la, lc, tv, sv, h⟩ := h; exact h.log.fine
theorem Tk.lt (h : Tk w O b d E L) : ∀ g, O g → g < w.heap.size := by obtain ⟨p, la, lc, tv, sv, h⟩ := h; exact h.lt
theorem Tk.inb (h : Tk w O b d E L) : O b := by obtain ⟨p, la, lc, tv, sv, h⟩ := h; exact h.inb
theorem own_keep15 {T n : Nat} {B z : Nat} {v : Value} {xs : List Value} (h : w.ownsRow B T z v n xs) (hk : ∀ g, v.ownBlock = some g → w'.heap[g]? = w.heap[g]?) : w'.ownsRow B T z v n xs := by
  refine ⟨h.1, ?_⟩
  rcases h.2 with q | ⟨g, cap, cur, e, q3, q4, q5⟩
  · exact .inl q
  · exact .inr ⟨g, cap, cur, e, q3, by rw [hk g (by rw [e]; rfl)]; exact q4, q5⟩
/-- what turns elsewhere leaves a track -/
theorem TkX.keep (h : TkX w O b p d E L la lc tv sv) (hk : Kp O' w w') (ho : Oth15 w w') (hn : ∀ g, O g → ¬ O' g) : TkX w' O b p d E L la lc tv sv := by
  have hb : ∀ g, O g → w'.heap[g]? = w.heap[g]? := fun g hg => hk.block g (h.lt g hg) (hn g hg)
  exact ⟨⟨(hb p h.inp).trans h.log.has, ho.own h.log.lns (by decide) (by decide) (by decide) (by decide), own_keep15 h.log.own fun g hg => hb g (h.int g hg), h.log.fine, h.log.nil0⟩, (hb b h.inb).trans h.has, own_keep15 h.own fun g hg => hb g (h.ins g hg), h.fine, h.inb, h.inp, h.int, h.ins, fun g hg => Nat.lt_of_lt_of_le (h.lt g hg) hk.size, h.un⟩
theorem Tk.keep (h : Tk w O b d E L) (hk : Kp O' w w') (ho : Oth15 w w') (hn : ∀ g, O g → ¬ O' g) : Tk w' O b d E L := by obtain ⟨p, la, lc, tv, sv, h⟩ := h; exact ⟨p, la, lc, tv, sv, h.keep hk ho hn⟩
theorem TkX.mono (h : TkX w O b p d E L la lc tv sv) (hs : ∀ g, O g → O' g) (hl : ∀ g, O' g → g < w.heap.size) : TkX w O' b p d E L la lc tv sv :=
  ⟨h.log, h.has, h.own, h.fine, hs _ h.inb, hs _ h.inp, fun g hg => hs _ (h.int g hg), fun g hg => hs _ (h.ins g hg), hl, h.un⟩
theorem Tk.mono (h : Tk w O b d E L) (hs : ∀ g, O g → O' g) (hl : ∀ g, O' g → g < w.heap.size) : Tk w O' b d E L := by obtain ⟨p, la, lc, tv, sv, h⟩ := h; exact ⟨p, la, lc, tv, sv, h.mono hs hl⟩
theorem TkR.same (h : Tk w O b d E L) (q : Below w.heap.size w w') : TkR w O b d E L w' :=
  ⟨(h.up q).mono (fun _ hg => .inl hg) fun g hg => hg.elim (fun z => Nat.lt_of_lt_of_le (h.lt g z) q.size) fun z => z.2, Kp.of q, Oth15.of q⟩
theorem TkX.row (h : TkX w O b p d E L la lc tv sv) : ∃ a c, sv = .slice a L.length c ∧ SpA w a L := by
  obtain ⟨a, c, e, _⟩ := own_form3 h.own
  subst e
  exact ⟨a, c, rfl, (own_rws sp_len h.own rfl).1⟩
end
end Go.Proofs.Ytobdcogaphkogaa
