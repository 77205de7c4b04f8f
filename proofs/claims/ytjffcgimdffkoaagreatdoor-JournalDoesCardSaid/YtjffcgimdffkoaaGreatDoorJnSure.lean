/- What a journal tells behind its calls, whole or broken off: plain. -/
import Derived.Test.YtjffcgimdffkoaaGreatDoorJnCrash
namespace Go.Proofs.YtjffcgimdffkoaaGreatDoor

def clrW (B : Nat → ByteArray) (b : List UInt8) (a e : Nat) : List (Nat × ByteArray) :=
  if a + nb b.length < e ∧ B (a + nb b.length) ≠ zs 64 then [(a + nb b.length, zs 64)] else []
/-- all writes but the last one -/
def preW (B : Nat → ByteArray) (b : List UInt8) (a e : Nat) : List (Nat × ByteArray) := clrW B b a e ++ bodyW (a + 1) ((layX b true).drop 1) ++ [(a, first b false)]
theorem layW_eq (B : Nat → ByteArray) (b : List UInt8) (a e : Nat) : layW B b a e = preW B b a e ++ [(a, first b true)] := by
  unfold layW preW clrW
  simp [List.append_assoc]
theorem rest_len (b : List UInt8) : ((layX b true).drop 1).length = nb b.length - 1 := by rw [List.length_drop, lay_len]
theorem first_list (b : List UInt8) (m : Bool) : first b m = str (mk m :: ((wholeL b true).drop 1).take 63) := by
  unfold first; rw [blk_first]; rfl
theorem first_size (b : List UInt8) (m : Bool) : (first b m).size = 64 := by
  unfold first
  rw [str_size]
  exact blk_len (whole_len b m) (nb_pos _)
theorem first_idle (b : List UInt8) : Idle (first b false) := by
  unfold Idle; rw [first_list, str_list]; rfl
theorem first_torn (b : List UInt8) (t : Nat) (h : t ≠ 0) : torn (first b true) (first b false) t = first b true := by
  rw [first_list, first_list]; exact torn_first t h
theorem layX_at (b : List UInt8) (i : Nat) (h : i < nb b.length) : (layX b true)[i]'(by rw [lay_len]; exact h) = str (blkL (wholeL b true) i) := by simp [layX]
theorem zs_idle : Idle (zs 64) := by
  unfold Idle zs; rfl
/-- what lies there, once all is written -/
theorem laid_at (B : Nat → ByteArray) (b : List UInt8) (a e : Nat) (c : Nat) : applyW B (layW B b a e) c =
    if a ≤ c ∧ c < a + nb b.length then str (blkL (wholeL b true) (c - a)) else if c = a + nb b.length ∧ c < e then zs 64 else B c := by
  have hp := nb_pos b.length
  rw [layW_eq, preW, applyW_append, applyW_append, applyW_append]
  show upd (upd (applyW (applyW B (clrW B b a e)) (bodyW (a + 1) ((layX b true).drop 1))) a (first b false)) a (first b true) c = _
  by_cases h0 : c = a
  · subst h0
    rw [upd_at, if_pos (by omega), Nat.sub_self]; rfl
  rw [upd_far _ _ h0, upd_far _ _ h0]
  unfold bodyW
  rw [applyW_range, rest_len]
  by_cases h1 : a + 1 ≤ c ∧ c < a + 1 + (nb b.length - 1)
  · rw [if_pos h1, if_pos (by omega)]
    have hl : c - (a + 1) < ((layX b true).drop 1).length := by rw [rest_len]; omega
    rw [List.getD_eq_getElem?_getD, List.getElem?_eq_getElem hl, Option.getD_some, List.getElem_drop]
    rw [← layX_at b (c - a) (by omega)]
    congr 1; omega
  · rw [if_neg h1, if_neg (by omega)]
    unfold clrW
    by_cases h2 : a + nb b.length < e ∧ B (a + nb b.length) ≠ zs 64
    · rw [if_pos h2]
      show upd B (a + nb b.length) (zs 64) c = _
      by_cases h3 : c = a + nb b.length
      · rw [h3, upd_at, if_pos ⟨rfl, h2.1⟩]
      · rw [upd_far _ _ h3, if_neg (by omega)]
    · rw [if_neg h2]
      show B c = _
      by_cases h3 : c = a + nb b.length ∧ c < e
      · rw [if_pos h3]
        by_cases h4 : B (a + nb b.length) = zs 64
        · rw [h3.1, h4]
        · exact absurd ⟨by omega, h4⟩ h2
      · rw [if_neg h3]
theorem laid_blks (B : Nat → ByteArray) (b : List UInt8) (a e : Nat) : blks (applyW B (layW B b a e)) a (nb b.length) = layL b true := by
  unfold blks layL
  refine List.map_congr_left fun i hi => ?_
  have := List.mem_range.mp hi
  unfold bl
  rw [laid_at, if_pos (by omega), str_list, show a + i - a = i by omega]
/-- the writes, each -/
theorem pre_mem {B : Nat → ByteArray} {b : List UInt8} {a e c : Nat} {x : ByteArray} (h : (c, x) ∈ preW B b a e) (he : a + nb b.length ≤ e) : (c = a ∧ x = first b false) ∨ (a < c ∧ c < e ∧ x.size = 64) := by
  have hp := nb_pos b.length
  unfold preW at h
  rw [List.mem_append, List.mem_append] at h
  rcases h with (h | h) | h
  · right
    unfold clrW at h
    split at h
    · next q =>
      simp at h
      obtain ⟨rfl, rfl⟩ := h
      exact ⟨by omega, q.1, zs_size 64⟩
    · cases h
  · right
    unfold bodyW at h
    obtain ⟨i, hi, e1⟩ := List.mem_map.mp h
    have hi := List.mem_range.mp hi
    rw [rest_len] at hi
    injection e1 with e2 e3
    refine ⟨by omega, by omega, ?_⟩
    have hl : i < ((layX b true).drop 1).length := by rw [rest_len]; omega
    rw [← e3, List.getD_eq_getElem?_getD, List.getElem?_eq_getElem hl, Option.getD_some, List.getElem_drop, layX_at b (1 + i) (by omega), str_size]
    exact blk_len (whole_len b true) (by omega)
  · left
    simp at h
    exact h
theorem lay_okay {n : Nat} {B : Nat → ByteArray} {b : List UInt8} {a e : Nat} (he : a + nb b.length ≤ e) (hn : e ≤ n) : Okay n (layW B b a e) := by
  have hp := nb_pos b.length
  intro p hp2
  rw [layW_eq, List.mem_append] at hp2
  rcases hp2 with h | h
  · rcases pre_mem (c := p.1) (x := p.2) h he with ⟨h1, h2⟩ | ⟨_, h2, h3⟩
    · rw [h2]; exact ⟨by omega, first_size b false⟩
    · exact ⟨by omega, h3⟩
  · simp at h
    rw [h]; exact ⟨by show a < n; omega, first_size b true⟩

/-- a record that is appended -/
def appJ (j : JS) (b : List UInt8) : JS := { j with L := j.L ++ [b], next := j.next + nb b.length }
def snapJ (n : Nat) (j : JS) (b : List UInt8) : JS := { half := 1 - j.half, next := frm n (1 - j.half) + nb b.length, L := [b], br := false }
section
variable {n : Nat} {B : Nat → ByteArray} {j : JS} {b : List UInt8}
theorem app_quiet (h : Inv n B j) (hf : ¬ full b j.next (til n j.half)) : ∀ p ∈ preW B b j.next (til n j.half), Quiet n j p := by
  intro p hp
  have hle := recs_le _ _ _ _ h.recs
  have h1 := frm_pos n j.half
  have hk := nb_pos b.length
  have he : j.next + nb b.length ≤ til n j.half := by unfold full at hf; omega
  have htl := til_le n j.half h.lo h.half
  rcases pre_mem (c := p.1) (x := p.2) hp he with ⟨e1, e2⟩ | ⟨e1, e2, e3⟩
  · exact ⟨by omega, by rw [e2]; exact first_size b false, by omega, by omega, fun _ _ => by rw [e2]; exact first_idle b⟩
  · exact ⟨by omega, e3, by omega, by omega, by omega⟩
theorem app_whole (h : Inv n B j) (hf : ¬ full b j.next (til n j.half)) : Inv n (applyW B (layW B b j.next (til n j.half))) (appJ j b) := by
  have hle := recs_le _ _ _ _ h.recs
  have h1 := frm_pos n j.half
  have hk := nb_pos b.length
  have hb : b.length ≤ 40000 := by unfold full at hf; omega
  have he : j.next + nb b.length ≤ til n j.half := by unfold full at hf; omega
  refine ⟨h.lo, ?_, h.half, h.br, ?_, ?_, he, ?_⟩
  · intro i hi
    rw [laid_at]
    split
    · rw [str_size]; exact blk_len (whole_len b true) (by omega)
    · split
      · exact zs_size 64
      · exact h.sz i hi
  · rw [laid_at, if_neg (by omega), if_neg (by omega)]; exact h.b0
  · refine recs_snoc _ b hb _ _ _ (recs_congr B _ _ _ _ (fun i hi hi2 => ?_) h.recs) (laid_blks B b _ _)
    rw [laid_at, if_neg (by omega), if_neg (by omega)]
  · intro hlt
    have hlt' : j.next + nb b.length < til n j.half := hlt
    show Idle (applyW B _ (j.next + nb b.length))
    rw [laid_at, if_neg (by omega), if_pos ⟨rfl, hlt'⟩]
    exact zs_idle
theorem app_mid {C : Nat → ByteArray} (h : Inv n B j) (hf : ¬ full b j.next (til n j.half)) (m : Mid B (layW B b j.next (til n j.half)) C) : Inv n C j ∨ Inv n C (appJ j b) := by
  rw [layW_eq] at m
  rcases m.last with m | ⟨t, ht, rfl⟩
  · exact .inl (m.quiet h (app_quiet h hf))
  · have hc : applyW B (preW B b j.next (til n j.half)) j.next = first b false := by
      unfold preW
      rw [applyW_append]
      exact upd_at _ _ _
    rw [hc]
    by_cases h0 : t = 0
    · left
      rw [h0, torn_none]
      have := h.keep (Keep.all _ B h.self (app_quiet h hf))
      rwa [show upd (applyW B (preW B b j.next (til n j.half))) j.next (first b false) = applyW B (preW B b j.next (til n j.half)) by rw [← hc, upd_self]]
    · right
      rw [first_torn b t h0]
      have := app_whole h hf
      rw [layW_eq, applyW_append] at this
      exact this

theorem frm_other (n h : Nat) (hh : h ≤ 1) : (h = 0 ∧ frm n (1 - h) = til n h) ∨ (h = 1 ∧ til n (1 - h) = frm n h) := by
  have : h = 0 ∨ h = 1 := by omega
  rcases this with rfl | rfl
  · left; unfold til frm; simp
  · right; unfold til frm; simp
theorem snap_quiet (h : Inv n B j) (hf : ¬ full b (frm n (1 - j.half)) (til n (1 - j.half))) : ∀ p ∈ layW B b (frm n (1 - j.half)) (til n (1 - j.half)), Quiet n j p := by
  intro p hp
  have hle := recs_le _ _ _ _ h.recs
  have h1 := frm_pos n j.half
  have h2 := frm_pos n (1 - j.half)
  have hk := nb_pos b.length
  have he : frm n (1 - j.half) + nb b.length ≤ til n (1 - j.half) := by unfold full at hf; omega
  have htl := til_le n (1 - j.half) h.lo (by omega)
  have hen := h.end_
  have ho := frm_other n j.half h.half
  have key : frm n (1 - j.half) ≤ p.1 ∧ p.1 < til n (1 - j.half) ∧ p.2.size = 64 := by
    rw [layW_eq, List.mem_append] at hp
    rcases hp with hp | hp
    · rcases pre_mem (c := p.1) (x := p.2) hp he with ⟨e1, e2⟩ | ⟨e1, e2, e3⟩
      · exact ⟨by omega, by omega, by rw [e2]; exact first_size b false⟩
      · exact ⟨by omega, e2, e3⟩
    · simp at hp
      rw [hp]
      exact ⟨Nat.le_refl _, by show frm n (1 - j.half) < _; omega, first_size b true⟩
  obtain ⟨k1, k2, k3⟩ := key
  refine ⟨by omega, k3, by omega, ?_, fun e1 e2 => ?_⟩
  · rcases ho with ⟨_, o⟩ | ⟨_, o⟩
    · rw [o] at k1; omega
    · rw [o] at k2; omega
  · exfalso
    rcases ho with ⟨_, o⟩ | ⟨_, o⟩
    · rw [o] at k1; omega
    · rw [o] at k2; omega
theorem mark_size (h : Nat) : (mark0 h).size = 64 := by unfold mark0; rw [str_size]; simp
theorem mark_torn {h g : Nat} (t : Nat) (q : t ≠ 0) : torn (mark0 h) (mark0 g) t = mark0 h := by unfold mark0; exact torn_first t q
theorem snap_whole (h : Inv n B j) (hf : ¬ full b (frm n (1 - j.half)) (til n (1 - j.half))) : Inv n (upd (applyW B (layW B b (frm n (1 - j.half)) (til n (1 - j.half)))) 0 (mark0 (1 - j.half))) (snapJ n j b) := by
  have h2 := frm_pos n (1 - j.half)
  have hk := nb_pos b.length
  have hb : b.length ≤ 40000 := by unfold full at hf; omega
  have he : frm n (1 - j.half) + nb b.length ≤ til n (1 - j.half) := by unfold full at hf; omega
  refine ⟨h.lo, ?_, ?_, rfl, upd_at _ _ _, ?_, he, ?_⟩
  · refine upd_size (fun i hi => ?_) (mark_size _)
    rw [laid_at]
    split
    · rw [str_size]; exact blk_len (whole_len b true) (by omega)
    · split
      · exact zs_size 64
      · exact h.sz i hi
  · show 1 - j.half ≤ 1; omega
  · refine recs_congr (applyW B (layW B b (frm n (1 - j.half)) (til n (1 - j.half)))) _ _ _ _ (fun i hi _ => upd_far _ _ (by
      have hi' : frm n (1 - j.half) ≤ i := hi
      omega)) ?_
    exact ⟨hb, laid_blks B b _ _, rfl⟩
  · intro hlt
    have hlt' : frm n (1 - j.half) + nb b.length < til n (1 - j.half) := hlt
    show Idle (upd _ 0 _ (frm n (1 - j.half) + nb b.length))
    rw [upd_far _ _ (by omega), laid_at, if_neg (by omega), if_pos ⟨rfl, hlt'⟩]
    exact zs_idle
theorem snap_mid {C : Nat → ByteArray} (h : Inv n B j) (hf : ¬ full b (frm n (1 - j.half)) (til n (1 - j.half))) (m : Mid B (layW B b (frm n (1 - j.half)) (til n (1 - j.half)) ++ [(0, mark0 (1 - j.half))]) C) : Inv n C j ∨ Inv n C (snapJ n j b) := by
  rcases m.last with m | ⟨t, ht, rfl⟩
  · exact .inl (m.quiet h (snap_quiet h hf))
  · have k := Keep.all _ B h.self (snap_quiet h hf)
    have hc : applyW B (layW B b (frm n (1 - j.half)) (til n (1 - j.half))) 0 = mark0 j.half := k.b0.trans h.b0
    by_cases h0 : t = 0
    · left
      rw [h0, torn_none, upd_self]
      exact h.keep k
    · right
      rw [hc, mark_torn t h0]
      exact snap_whole h hf
end

/-- what a call gives, as it may be broken off -/
structure Step (s : SS) (j w : JS) (s' : SS) (j' : JS) (e : Int) : Prop where
  n : s'.n = s.n
  err : e = 0 ∨ e = 4 ∨ e = 9
  full : e = 4 → s' = s ∧ j' = j
  fine : e = 0 → Inv s'.n s'.B j' ∧ j' = w
  down : e = 9 → Inv s'.n s'.B j ∨ Inv s'.n s'.B w
theorem app_step {s : SS} {j : JS} {m : Int} (b : List UInt8) (hs : Fine s m) (h : Inv s.n s.B j) : Step s j (appJ j b) (appS s j b).1 (appS s j b).2.1 (appS s j b).2.2 := by
  unfold appS
  rw [if_neg (by rw [h.br]; simp)]
  by_cases hf : full b j.next (til s.n j.half)
  · rw [if_pos hf]
    exact ⟨rfl, .inr (.inl rfl), fun _ => ⟨rfl, rfl⟩, fun e => absurd e (by show ¬ (4 : Int) = 0; decide), fun e => absurd e (by show ¬ (4 : Int) = 9; decide)⟩
  · rw [if_neg hf]
    have he : j.next + nb b.length ≤ til s.n j.half := by unfold full at hf; omega
    have ok : Okay s.n (layW s.B b j.next (til s.n j.half)) := lay_okay he (til_le _ _ h.lo h.half)
    by_cases hr : (runW s (layW s.B b j.next (til s.n j.half))).2 = 0
    · rw [if_pos hr]
      have hz := run_zero _ _ hr
      refine ⟨hz.2, .inl rfl, fun e => absurd e (by show ¬ (0 : Int) = 4; decide), fun _ => ⟨?_, rfl⟩, fun e => absurd e (by show ¬ (0 : Int) = 9; decide)⟩
      show Inv (runW s _).1.n (runW s _).1.B (appJ j b)
      rw [hz.1, hz.2]
      exact app_whole h hf
    · rw [if_neg hr]
      have hz := run_nine _ s ok hs.ft hr
      refine ⟨hz.2.1, .inr (.inr hz.1), fun e => absurd (hz.1.symm.trans e) (by decide), fun e => absurd e hr, fun _ => ?_⟩
      show Inv (runW s _).1.n (runW s _).1.B j ∨ Inv (runW s _).1.n (runW s _).1.B (appJ j b)
      rw [hz.2.1]
      exact app_mid h hf hz.2.2
theorem snap_step {s : SS} {j : JS} {m : Int} (b : List UInt8) (hs : Fine s m) (h : Inv s.n s.B j) : Step s j (snapJ s.n j b) (snapS s j b).1 (snapS s j b).2.1 (snapS s j b).2.2 := by
  unfold snapS
  rw [if_neg (by rw [h.br]; simp)]
  by_cases hf : full b (frm s.n (1 - j.half)) (til s.n (1 - j.half))
  · rw [if_pos hf]
    exact ⟨rfl, .inr (.inl rfl), fun _ => ⟨rfl, rfl⟩, fun e => absurd e (by show ¬ (4 : Int) = 0; decide), fun e => absurd e (by show ¬ (4 : Int) = 9; decide)⟩
  · rw [if_neg hf]
    have he : frm s.n (1 - j.half) + nb b.length ≤ til s.n (1 - j.half) := by unfold full at hf; omega
    have ok : Okay s.n (snapW s j b) := by
      intro p hp
      unfold snapW at hp
      rcases List.mem_append.mp hp with hp | hp
      · exact lay_okay he (til_le _ _ h.lo (by omega)) p hp
      · simp at hp
        rw [hp]
        exact ⟨by have := h.lo; show 0 < s.n; omega, mark_size _⟩
    by_cases hr : (runW s (snapW s j b)).2 = 0
    · rw [if_pos hr]
      have hz := run_zero _ _ hr
      refine ⟨hz.2, .inl rfl, fun e => absurd e (by show ¬ (0 : Int) = 4; decide), fun _ => ⟨?_, rfl⟩, fun e => absurd e (by show ¬ (0 : Int) = 9; decide)⟩
      show Inv (runW s _).1.n (runW s _).1.B (snapJ s.n j b)
      rw [hz.1, hz.2]
      unfold snapW
      rw [applyW_append]
      exact snap_whole h hf
    · rw [if_neg hr]
      have hz := run_nine _ s ok hs.ft hr
      refine ⟨hz.2.1, .inr (.inr hz.1), fun e => absurd (hz.1.symm.trans e) (by decide), fun e => absurd e hr, fun _ => ?_⟩
      show Inv (runW s _).1.n (runW s _).1.B j ∨ Inv (runW s _).1.n (runW s _).1.B (snapJ s.n j b)
      rw [hz.2.1]
      exact snap_mid h hf hz.2.2

/-- a store with power and without a fuse writes all -/
theorem run_power : ∀ (wl : List (Nat × ByteArray)) (s : SS), Okay s.n wl → s.pw = true → s.ld = false → (runW s wl).2 = 0
  | [], _, _, _, _ => rfl
  | (a, x) :: r, s, ok, hp, hl => by
    have o := ok (a, x) (by simp)
    have q : inR s a x := ⟨by omega, by have := o.1; show (a : Int) < s.n; omega, o.2⟩
    have h0 : wrE s a x = 0 := by unfold wrE; rw [if_pos q, if_neg (by rw [hp]; simp), if_neg (by rw [hl]; simp)]
    have hz := wr_zero h0
    unfold runW
    rw [if_pos h0]
    refine run_power r _ (fun p hp => by rw [hz.2.1]; exact ok p (by simp [hp])) (by rw [hz.2.2]; exact hp) ?_
    unfold wrS
    rw [if_pos q, if_neg (by rw [hp]; simp), if_neg (by rw [hl]; simp)]
    exact hl
def j0 : JS := { half := 0, next := 1, L := [], br := false }
theorem mark_zero : mark0 0 = zs 64 := by unfold mark0 zs str; rfl
theorem inv_new {n : Nat} (h : 3 ≤ n) : Inv n (newS n).B j0 :=
  ⟨h, fun _ _ => zs_size 64, by simp [j0], rfl, mark_zero.symm, by show 1 = frm n 0; unfold frm; omega, by show 1 ≤ til n 0; unfold til frm; omega, fun _ => zs_idle⟩
/-- a new store, opened -/
theorem open_new {n : Nat} (h : 3 ≤ n) (h' : n ≤ 4096) : ∃ s, openS (newS n) = (s, some (appJ j0 []), 0) ∧ s.n = n ∧ Inv s.n s.B (appJ j0 []) ∧ s = (appS (newS n) j0 []).1 := by
  have hi := inv_new h
  have hr : readS (newS n) = some j0 := read_inv (s := newS n) hi
  have hf : ¬ full [] 1 (til n 0) := by
    unfold full nb til frm hlf
    simp
    omega
  have st := app_step (s := newS n) (j := j0) [] (new_fine h h') hi
  have he : (appS (newS n) j0 []).2.2 = 0 := by
    unfold appS
    rw [if_neg (by simp [j0]), if_neg (show ¬ full [] j0.next (til (newS n).n j0.half) from hf), if_pos]
    refine run_power _ (newS n) (lay_okay ?_ (til_le n 0 h (by omega))) rfl rfl
    unfold full at hf
    show j0.next + nb 0 ≤ til n 0
    show 1 + nb 0 ≤ til n 0
    have : nb 0 = 1 := rfl
    have : nb ([] : List UInt8).length = 1 := rfl
    omega
  have hi2 := st.fine he
  refine ⟨(appS (newS n) j0 []).1, ?_, st.n, ?_, rfl⟩
  · unfold openS
    rw [hr]
    simp only
    rw [if_pos (show j0.L = [] from rfl), if_pos he, hi2.2]
  · rw [← hi2.2]; exact hi2.1
end Go.Proofs.YtjffcgimdffkoaaGreatDoor
