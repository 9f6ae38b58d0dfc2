import Derived.Test.YtamkfbelpfpjcaaGreatDoorGa
set_option linter.unusedVariables false
set_option linter.unusedSimpArgs false

namespace Go.Proofs.YtamkfbelpfpjcaaGreatDoor

structure Sq.Ent where
  place : Int
  row : ByteArray

abbrev Sq.Kid : Nat → Type
  | 0 => Sq.Ent
  | n + 1 => List (Sq.Kid n)

namespace Sq

def ents : (n : Nat) → List (Kid n) → List Ent
  | 0, es => es
  | n + 1, cs => List.flatMap (ents n) cs
def least : (n : Nat) → List (Kid n) → Int
  | 0, [] => 0
  | 0, e :: _ => Ent.place e
  | _ + 1, [] => 0
  | n + 1, c :: _ => least n c
def wayFrom (n : Nat) (p : Int) : List (List (Kid n)) → Nat → Nat → Nat
  | [], _, a => a
  | c :: r, i, a => wayFrom n p r (i + 1) (if least n c ≤ p then i else a)
def way (n : Nat) (cs : List (List (Kid n))) (p : Int) : Nat := wayFrom n p (cs.drop 1) 1 0
def halve {α : Type} (l : List α) : List (List α) := if l.length ≤ 4 then [l] else [l.take 3, l.drop 3]
def exch {α : Type} (l : List α) (a m : Nat) (o : List α) : List α := l.take a ++ o ++ l.drop (a + m)
def withE (es : List Ent) (e : Ent) : List Ent :=
  es.takeWhile (fun x => Decidable.decide (x.place < e.place)) ++ e :: (es.dropWhile (fun x => Decidable.decide (x.place < e.place))).filter (fun x => x.place != e.place)
def putO {α : Type} (cs : List (List α)) (a : Nat) (f : List α → List (List α)) : Option (List α) → List (List (List α))
  | none => [cs]
  | some c => halve (exch cs a 1 (f c))
def putT : (n : Nat) → List (Kid n) → Ent → List (List (Kid n))
  | 0, es, e => halve (withE es e)
  | n + 1, cs, e => putO cs (way n cs e.place) (fun c => putT n c e) ((show List (List (Kid n)) from cs)[way n cs e.place]?)
def joinK {α : Type} (cs : List (List α)) (a : Nat) : List (List α) :=
  match cs[if a + 1 == cs.length then a - 1 else a]?, cs[(if a + 1 == cs.length then a - 1 else a) + 1]? with
  | some l, some r => exch cs (if a + 1 == cs.length then a - 1 else a) 2 (halve (l ++ r))
  | _, _ => cs
def mended {α : Type} (cs : List (List α)) (a : Nat) (c : List α) : List (List α) :=
  if c.length < 2 then joinK (exch cs a 1 [c]) a else exch cs a 1 [c]
def delO {α : Type} (cs : List (List α)) (a : Nat) (f : List α → List α) : Option (List α) → List (List α)
  | none => cs
  | some c => mended cs a (f c)
def delT : (n : Nat) → List (Kid n) → Int → List (Kid n)
  | 0, es, p => List.filter (fun x : Ent => x.place != p) es
  | n + 1, cs, p => delO cs (way n cs p) (fun c => delT n c p) (show List (List (Kid n)) from cs)[way n cs p]?
def hasO {α : Type} (f : List α → Bool) : Option (List α) → Bool
  | none => false
  | some c => f c
def hasT : (n : Nat) → List (Kid n) → Int → Bool
  | 0, es, p => List.any es (fun x : Ent => x.place == p)
  | n + 1, cs, p => hasO (fun c => hasT n c p) (show List (List (Kid n)) from cs)[way n cs p]?
def nextLow (n : Nat) (lo : Int) : List (List (Kid n)) → Bool
  | [] => true
  | d :: _ => Decidable.decide (lo < least n d)
def btwL (n : Nat) (f : List (Kid n) → List Ent) (lo hi : Int) : List (List (Kid n)) → List Ent
  | [] => []
  | c :: r => (if Decidable.decide (least n c ≤ hi) && nextLow n lo r then f c else []) ++ btwL n f lo hi r
def btwT : (n : Nat) → List (Kid n) → Int → Int → List Ent
  | 0, es, lo, hi => List.filter (fun x : Ent => Decidable.decide (lo ≤ x.place) && Decidable.decide (x.place ≤ hi)) es
  | n + 1, cs, lo, hi => btwL n (fun c => btwT n c lo hi) lo hi cs

def okT : (n : Nat) → List (Kid n) → Prop
  | 0, _ => True
  | n + 1, cs => ∀ c : List (Kid n), c ∈ (show List (List (Kid n)) from cs) → 2 ≤ c.length ∧ okT n c
def srt (es : List Ent) : Prop := es.Pairwise fun a b => a.place < b.place
def ins (es : List Ent) (e : Ent) : List Ent := es.filter (fun x => Decidable.decide (x.place < e.place)) ++ e :: es.filter (fun x => Decidable.decide (e.place < x.place))

theorem ents_append : ∀ (n : Nat) (a b : List (Kid n)), ents n (a ++ b) = ents n a ++ ents n b
  | 0, _, _ => rfl
  | n + 1, a, b => by
    show List.flatMap (ents n) (a ++ b) = List.flatMap (ents n) a ++ List.flatMap (ents n) b
    exact List.flatMap_append
theorem ents_succ (n : Nat) (cs : List (List (Kid n))) : ents (n + 1) cs = cs.flatMap (ents n) := rfl
theorem okT_mem {n : Nat} {cs : List (List (Kid n))} (h : okT (n + 1) cs) {c : List (Kid n)} (hc : c ∈ cs) : 2 ≤ c.length ∧ okT n c := h c hc
theorem okT_succ {n : Nat} {cs : List (List (Kid n))} (h : ∀ c ∈ cs, 2 ≤ c.length ∧ okT n c) : okT (n + 1) cs := h
theorem okT_sub : ∀ {n : Nat} {a b : List (Kid n)}, okT n b → (∀ x ∈ a, x ∈ b) → okT n a
  | 0, _, _, _, _ => trivial
  | _ + 1, _, _, h, hs => fun c hc => h c (hs c hc)
theorem okT_app : ∀ {n : Nat} {a b : List (Kid n)}, okT n a → okT n b → okT n (a ++ b)
  | 0, _, _, _, _ => trivial
  | _ + 1, _, _, ha, hb => fun c hc => by
    rcases List.mem_append.1 hc with h | h
    · exact ha c h
    · exact hb c h

theorem least_head : ∀ (n : Nat) (t : List (Kid n)), okT n t → t ≠ [] → ∃ e r, ents n t = e :: r ∧ least n t = e.place
  | 0, t, _, h => by
    cases t with
    | nil => exact absurd rfl h
    | cons e r => exact ⟨e, r, rfl, rfl⟩
  | n + 1, t, ho, h => by
    cases t with
    | nil => exact absurd rfl h
    | cons c r =>
      obtain ⟨h2, hc⟩ := ho c List.mem_cons_self
      obtain ⟨e, q, he, hl⟩ := least_head n c hc (by intro h; subst h; simp at h2)
      refine ⟨e, q ++ List.flatMap (ents n) r, ?_, hl⟩
      show List.flatMap (ents n) (c :: r) = _
      rw [List.flatMap_cons, he]
      rfl
theorem ne_of_two {α : Type} {l : List α} (h : 2 ≤ l.length) : l ≠ [] := by intro e; subst e; simp at h
theorem least_mem {n : Nat} {t : List (Kid n)} (ho : okT n t) (h : t ≠ []) : ∃ e ∈ ents n t, least n t = e.place := by
  obtain ⟨e, r, he, hl⟩ := least_head n t ho h
  exact ⟨e, by rw [he]; exact List.mem_cons_self, hl⟩
theorem least_le {n : Nat} {t : List (Kid n)} (ho : okT n t) (h : t ≠ []) (hs : srt (ents n t)) : ∀ e ∈ ents n t, least n t ≤ e.place := by
  obtain ⟨e, r, he, hl⟩ := least_head n t ho h
  rw [he] at hs
  intro x hx
  rw [he] at hx
  rcases List.mem_cons.1 hx with rfl | hx
  · omega
  · have := (List.pairwise_cons.1 hs).1 x hx
    omega

theorem srt_app {a b : List Ent} (h : srt (a ++ b)) : srt a ∧ srt b ∧ ∀ x ∈ a, ∀ y ∈ b, x.place < y.place := List.pairwise_append.1 h

theorem wayFrom_spec (n : Nat) (p : Int) : ∀ (r : List (List (Kid n))) (i a : Nat),
    (wayFrom n p r i a = a ∧ ∀ c ∈ r, p < least n c) ∨ ∃ r1 c r2, r = r1 ++ c :: r2 ∧ wayFrom n p r i a = i + r1.length ∧ least n c ≤ p ∧ ∀ x ∈ r2, p < least n x
  | [], _, _ => Or.inl ⟨rfl, fun _ h => by cases h⟩
  | c :: r, i, a => by
    rcases wayFrom_spec n p r (i + 1) (if least n c ≤ p then i else a) with ⟨h1, h2⟩ | ⟨r1, d, r2, h1, h2, h3, h4⟩
    · by_cases hc : least n c ≤ p
      · refine Or.inr ⟨[], c, r, rfl, ?_, hc, h2⟩
        rw [wayFrom, h1, if_pos hc]; simp
      · refine Or.inl ⟨by rw [wayFrom, h1, if_neg hc], ?_⟩
        intro x hx
        rcases List.mem_cons.1 hx with rfl | hx
        · omega
        · exact h2 x hx
    · refine Or.inr ⟨c :: r1, d, r2, by rw [h1]; rfl, ?_, h3, h4⟩
      rw [wayFrom, h2]; simp; omega

theorem way_spec (n : Nat) (cs : List (List (Kid n))) (p : Int) (ho : okT (n + 1) cs) (hne : cs ≠ []) (hs : srt (ents (n + 1) cs)) :
    ∃ pre c post, cs = pre ++ c :: post ∧ way n cs p = pre.length ∧ (∀ e ∈ pre.flatMap (ents n), e.place < p) ∧ (∀ e ∈ post.flatMap (ents n), p < e.place) := by
  have after : ∀ l : List (List (Kid n)), (∀ x ∈ l, x ∈ cs) → (∀ x ∈ l, srt (ents n x)) → (∀ x ∈ l, p < least n x) → ∀ e ∈ l.flatMap (ents n), p < e.place := by
    intro l hl hsl hp e he
    obtain ⟨x, hx, hex⟩ := List.mem_flatMap.1 he
    obtain ⟨h2, hox⟩ := okT_mem ho (hl x hx)
    have := least_le hox (ne_of_two h2) (hsl x hx) e hex
    have := hp x hx
    omega
  have each : ∀ x ∈ cs, srt (ents n x) := by
    intro x hx
    obtain ⟨l1, l2, rfl⟩ := List.append_of_mem hx
    have h1 : srt ((l1.flatMap (ents n)) ++ ((x :: l2).flatMap (ents n))) := by rw [← List.flatMap_append]; exact hs
    have h2 := (srt_app h1).2.1
    rw [List.flatMap_cons] at h2
    exact (srt_app h2).1
  cases cs with
  | nil => exact absurd rfl hne
  | cons c0 r =>
    rcases wayFrom_spec n p r 1 0 with ⟨h1, h2⟩ | ⟨r1, d, r2, h1, h2, h3, h4⟩
    · exact ⟨[], c0, r, rfl, h1, (fun e he => by simp at he), after r (fun x hx => List.mem_cons_of_mem _ hx) (fun x hx => each x (List.mem_cons_of_mem _ hx)) h2⟩
    · subst h1
      refine ⟨c0 :: r1, d, r2, rfl, ?_, ?_, after r2 (fun x hx => by simp [hx]) (fun x hx => each x (by simp [hx])) h4⟩
      · show wayFrom n p (r1 ++ d :: r2) 1 0 = _
        rw [h2]; simp; omega
      · have hd : d ∈ c0 :: (r1 ++ d :: r2) := by simp
        obtain ⟨k2, hod⟩ := okT_mem ho hd
        obtain ⟨z, hz, hzl⟩ := least_mem hod (ne_of_two k2)
        have h5 : srt (((c0 :: r1).flatMap (ents n)) ++ ((d :: r2).flatMap (ents n))) := by rw [← List.flatMap_append]; exact hs
        intro e he
        have := (srt_app h5).2.2 e he z (by rw [List.flatMap_cons]; exact List.mem_append_left _ hz)
        omega

theorem exch_at {α : Type} (pre post : List α) (c : α) (o : List α) : exch (pre ++ c :: post) pre.length 1 o = pre ++ o ++ post := by
  unfold exch
  rw [List.take_left, (by simp : (pre ++ c :: post).drop (pre.length + 1) = post)]
theorem exch_at2 {α : Type} (pre post : List α) (c d : α) (o : List α) : exch (pre ++ c :: d :: post) pre.length 2 o = pre ++ o ++ post := by
  unfold exch
  rw [List.take_left, (by simp : (pre ++ c :: d :: post).drop (pre.length + 2) = post)]
theorem get_at {α : Type} (pre post : List α) (c : α) : (pre ++ c :: post)[pre.length]? = some c := by simp

theorem halve_ents (n : Nat) (l : List (Kid n)) : (halve l).flatMap (ents n) = ents n l := by
  unfold halve
  split
  · simp
  · rw [List.flatMap_cons, List.flatMap_cons, List.flatMap_nil, List.append_nil, ← ents_append, List.take_append_drop]
theorem halve_ok {n : Nat} {l : List (Kid n)} (h : okT n l) : ∀ x ∈ halve l, okT n x := by
  unfold halve
  split
  · intro x hx; rw [List.mem_singleton.1 hx]; exact h
  · intro x hx
    simp only [List.mem_cons, List.not_mem_nil, or_false] at hx
    rcases hx with rfl | rfl
    · exact okT_sub h fun y hy => List.mem_of_mem_take hy
    · exact okT_sub h fun y hy => List.mem_of_mem_drop hy
theorem halve_two {α : Type} {l : List α} (h : 2 ≤ l.length) : ∀ x ∈ halve l, 2 ≤ x.length := by
  unfold halve
  split
  · intro x hx; rw [List.mem_singleton.1 hx]; exact h
  · intro x hx
    simp only [List.mem_cons, List.not_mem_nil, or_false] at hx
    rcases hx with rfl | rfl
    · simp; omega
    · simp; omega
theorem halve_len {α : Type} (l : List α) : 1 ≤ (halve l).length ∧ (halve l).length ≤ 2 := by
  unfold halve; split <;> simp

theorem filt_all {l : List Ent} {q : Ent → Bool} (h : ∀ x ∈ l, q x = true) : l.filter q = l := List.filter_eq_self.2 h
theorem filt_none {l : List Ent} {q : Ent → Bool} (h : ∀ x ∈ l, q x = false) : l.filter q = [] := List.filter_eq_nil_iff.2 fun x hx => by rw [h x hx]; simp

theorem withE_ins : ∀ (es : List Ent) (e : Ent), srt es → withE es e = ins es e
  | [], _, _ => rfl
  | x :: r, e, hs => by
    have ⟨h1, h2⟩ := List.pairwise_cons.1 hs
    have ih := withE_ins r e h2
    unfold withE ins at ih ⊢
    by_cases hx : x.place < e.place
    · simp only [List.takeWhile_cons, List.dropWhile_cons, List.filter_cons, hx, decide_true, if_true]
      have : ¬ (e.place < x.place) := by omega
      simp only [this, decide_false]
      rw [List.cons_append, ih]
      rfl
    · have hr : ∀ y ∈ r, e.place < y.place := fun y hy => by have := h1 y hy; omega
      simp only [List.takeWhile_cons, List.dropWhile_cons, List.filter_cons, hx, decide_false, List.nil_append]
      have e1 : r.filter (fun x => Decidable.decide (x.place < e.place)) = [] := filt_none fun y hy => by have := hr y hy; simp; omega
      have e2 : r.filter (fun x => Decidable.decide (e.place < x.place)) = r := filt_all fun y hy => by have := hr y hy; simpa using this
      have e3 : r.filter (fun x => x.place != e.place) = r := filt_all fun y hy => by have := hr y hy; simp; omega
      simp only [e1, e2]
      by_cases hxe : x.place = e.place
      · have hb : (x.place != e.place) = false := by simp [hxe]
        have hc : ¬ (e.place < x.place) := by omega
        simp only [hc, decide_false, Bool.false_eq_true, if_false, List.filter_cons, hb, e3, List.nil_append]
      · have hb : (x.place != e.place) = true := by simp [hxe]
        have hc : e.place < x.place := by omega
        simp only [hc, decide_true, Bool.false_eq_true, if_false, if_true, List.filter_cons, hb, e3, List.nil_append]

theorem ins_mid {pre mid post : List Ent} {e : Ent} (h1 : ∀ x ∈ pre, x.place < e.place) (h2 : ∀ x ∈ post, e.place < x.place) : ins (pre ++ mid ++ post) e = pre ++ ins mid e ++ post := by
  unfold ins
  simp only [List.filter_append]
  rw [filt_all (l := pre) (fun x hx => by simpa using h1 x hx), filt_none (l := post) (q := fun x => Decidable.decide (x.place < e.place)) (fun x hx => by have := h2 x hx; simp; omega),
    filt_none (l := pre) (q := fun x => Decidable.decide (e.place < x.place)) (fun x hx => by have := h1 x hx; simp; omega), filt_all (l := post) (fun x hx => by simpa using h2 x hx)]
  simp
theorem srt_mid {pre mid post : List Ent} (h : srt (pre ++ mid ++ post)) : srt mid := (srt_app (srt_app h).1).2.1
theorem kid_mid {n : Nat} {pre post : List (List (Kid n))} {c : List (Kid n)} : ents (n + 1) (pre ++ c :: post) = pre.flatMap (ents n) ++ ents n c ++ post.flatMap (ents n) := by
  show List.flatMap (ents n) (pre ++ c :: post) = _
  rw [List.flatMap_append, List.flatMap_cons, List.append_assoc]

theorem put_ents : ∀ (n : Nat) (t : List (Kid n)) (e : Ent), okT n t → (n = 0 ∨ t ≠ []) → srt (ents n t) → (putT n t e).flatMap (ents n) = ins (ents n t) e
  | 0, t, e, _, _, hs => by
    show (halve (withE t e)).flatMap (ents 0) = _
    rw [halve_ents 0]
    exact withE_ins t e hs
  | n + 1, cs, e, ho, hne, hs => by
    obtain ⟨pre, c, post, rfl, hw, h1, h2⟩ := way_spec n cs e.place ho (by rcases hne with h | h; cases h; exact h) hs
    obtain ⟨k2, hoc⟩ := okT_mem ho (c := c) (by simp)
    have hm := kid_mid (n := n) (pre := pre) (post := post) (c := c)
    rw [hm] at hs
    have hp : putT (n + 1) (pre ++ c :: post) e = halve (pre ++ putT n c e ++ post) := by
      show putO (pre ++ c :: post) (way n (pre ++ c :: post) e.place) (fun c => putT n c e) (pre ++ c :: post)[way n (pre ++ c :: post) e.place]? = _
      rw [hw, get_at]
      exact congrArg halve (exch_at _ _ _ _)
    rw [hp]
    refine (halve_ents (n + 1) _).trans ?_
    show List.flatMap (ents n) (pre ++ putT n c e ++ post) = _
    rw [List.flatMap_append, List.flatMap_append, put_ents n c e hoc (Or.inr (ne_of_two k2)) (srt_mid hs), hm, ins_mid h1 h2]

theorem few_eq : ∀ {es : List Ent}, srt es → ∀ p : Int, es.length ≤ (es.filter fun x => x.place != p).length + 1
  | [], _, _ => by simp
  | x :: r, hs, p => by
    have ⟨h1, h2⟩ := List.pairwise_cons.1 hs
    by_cases hx : x.place = p
    · have : r.filter (fun x => x.place != p) = r := filt_all fun y hy => by have := h1 y hy; simp; omega
      simp [List.filter_cons, hx, this]
    · have := few_eq h2 p
      simp [List.filter_cons, hx]
      omega
theorem ins_len {es : List Ent} (hs : srt es) (e : Ent) : es.length ≤ (ins es e).length ∧ (ins es e).length ≤ es.length + 1 := by
  induction es with
  | nil => simp [ins]
  | cons x r ih =>
    have ⟨h1, h2⟩ := List.pairwise_cons.1 hs
    have ih := ih h2
    unfold ins at ih ⊢
    simp only [List.filter_cons, List.length_append, List.length_cons] at ih ⊢
    by_cases a : x.place < e.place
    · have b : ¬ (e.place < x.place) := by omega
      simp only [a, b, decide_true, decide_false, if_true, List.length_cons] at ih ⊢
      simp
      omega
    · by_cases b : e.place < x.place
      · simp only [a, b, decide_true, decide_false, if_true, List.length_cons] at ih ⊢
        simp
        omega
      · have e1 : r.filter (fun x => Decidable.decide (x.place < e.place)) = [] := filt_none fun y hy => by have := h1 y hy; simp; omega
        have e2 : r.filter (fun x => Decidable.decide (e.place < x.place)) = r := filt_all fun y hy => by have := h1 y hy; simp; omega
        simp [a, b, e1, e2]

theorem put_ok : ∀ (n : Nat) (t : List (Kid n)) (e : Ent), okT n t → (n = 0 ∨ t ≠ []) → srt (ents n t) → (∀ x ∈ putT n t e, okT n x ∧ (2 ≤ t.length → 2 ≤ x.length)) ∧ 1 ≤ (putT n t e).length ∧ (putT n t e).length ≤ 2
  | 0, t, e, _, _, hs => by
    refine ⟨fun x hx => ⟨trivial, fun h2 => ?_⟩, halve_len _⟩
    refine halve_two ?_ x hx
    have := (ins_len (es := t) hs e).1
    rw [withE_ins t e hs]
    exact Nat.le_trans h2 this
  | n + 1, cs, e, ho, hne, hs => by
    obtain ⟨pre, c, post, rfl, hw, h1, h2⟩ := way_spec n cs e.place ho (by rcases hne with h | h; cases h; exact h) hs
    obtain ⟨k2, hoc⟩ := okT_mem ho (c := c) (by simp)
    have hm := kid_mid (n := n) (pre := pre) (post := post) (c := c)
    rw [hm] at hs
    have hp : putT (n + 1) (pre ++ c :: post) e = halve (pre ++ putT n c e ++ post) := by
      show putO (pre ++ c :: post) (way n (pre ++ c :: post) e.place) (fun c => putT n c e) (pre ++ c :: post)[way n (pre ++ c :: post) e.place]? = _
      rw [hw, get_at]
      exact congrArg halve (exch_at _ _ _ _)
    obtain ⟨hx, hl1, hl2⟩ := put_ok n c e hoc (Or.inr (ne_of_two k2)) (srt_mid hs)
    rw [hp]
    refine ⟨fun x hxm => ⟨?_, fun hc => ?_⟩, halve_len _⟩
    · refine halve_ok (n := n + 1) ?_ x hxm
      refine okT_succ fun y hy => ?_
      rcases List.mem_append.1 hy with hy | hy
      · rcases List.mem_append.1 hy with hy | hy
        · exact okT_mem ho (by simp [hy])
        · exact ⟨(hx y hy).2 k2, (hx y hy).1⟩
      · exact okT_mem ho (by simp [hy])
    · refine halve_two ?_ x hxm
      simp only [List.length_append, List.length_cons] at hc ⊢
      have hl1' : 1 ≤ List.length (putT n c e) := hl1
      omega

theorem joinK_pair {α : Type} {cs : List (List α)} {a : Nat} (ha : a < cs.length) (h2 : 2 ≤ cs.length) :
    ∃ pre l r post, cs = pre ++ l :: r :: post ∧ joinK cs a = pre ++ halve (l ++ r) ++ post ∧ (pre.length = a ∨ pre.length + 1 = a) := by
  obtain ⟨b, hb⟩ : ∃ b, b = (if a + 1 == cs.length then a - 1 else a) := ⟨_, rfl⟩
  have hb1 : b + 1 < cs.length := by
    rw [hb]
    by_cases h : a + 1 = cs.length
    · simp [h]; omega
    · simp [h]; omega
  have hba : b = a ∨ b + 1 = a := by
    rw [hb]
    by_cases h : a + 1 = cs.length
    · simp [h]; omega
    · simp [h]
  have hcs : cs = cs.take b ++ cs[b] :: cs[b + 1] :: cs.drop (b + 2) := by
    conv => lhs; rw [← List.take_append_drop b cs, List.drop_eq_getElem_cons (by omega), List.drop_eq_getElem_cons (by omega)]
  have hl : (cs.take b).length = b := by simp; omega
  refine ⟨cs.take b, cs[b], cs[b + 1], cs.drop (b + 2), hcs, ?_, by rw [hl]; exact hba⟩
  unfold joinK
  rw [← hb, List.getElem?_eq_getElem (by omega), List.getElem?_eq_getElem (by omega)]
  rfl

theorem filt_mid {pre mid post : List Ent} {p : Int} (h1 : ∀ x ∈ pre, x.place < p) (h2 : ∀ x ∈ post, p < x.place) : (pre ++ mid ++ post).filter (fun x => x.place != p) = pre ++ mid.filter (fun x => x.place != p) ++ post := by
  simp only [List.filter_append]
  rw [filt_all (l := pre) (fun x hx => by have := h1 x hx; simp; omega), filt_all (l := post) (fun x hx => by have := h2 x hx; simp; omega)]

theorem mended_ents {n : Nat} {pre post : List (List (Kid n))} {c : List (Kid n)} (d : List (Kid n)) (h2 : 2 ≤ (pre ++ c :: post).length) :
    ents (n + 1) (mended (pre ++ c :: post) pre.length d) = ents (n + 1) (pre ++ d :: post) := by
  unfold mended
  rw [exch_at]
  split
  · have e1 : pre ++ [d] ++ post = pre ++ d :: post := by simp
    rw [e1]
    obtain ⟨p, l, r, q, hc, hj, _⟩ := joinK_pair (cs := pre ++ d :: post) (a := pre.length) (by simp) (by simpa using h2)
    rw [hj, hc]
    show List.flatMap (ents n) (p ++ halve (l ++ r) ++ q) = List.flatMap (ents n) (p ++ l :: r :: q)
    rw [List.flatMap_append, List.flatMap_append, halve_ents n, ents_append, List.flatMap_append, List.flatMap_cons, List.flatMap_cons]
    simp
  · have e1 : pre ++ [d] ++ post = pre ++ d :: post := by simp
    rw [e1]

theorem mended_ok {n : Nat} {pre post : List (List (Kid n))} {c : List (Kid n)} {d : List (Kid n)} (ho : okT (n + 1) (pre ++ c :: post)) (hd : okT n d) (h1 : 1 ≤ d.length) (h2 : 2 ≤ (pre ++ c :: post).length) :
    okT (n + 1) (mended (pre ++ c :: post) pre.length d) ∧ (pre ++ c :: post).length ≤ (mended (pre ++ c :: post) pre.length d).length + 1 := by
  unfold mended
  rw [exch_at]
  have e1 : pre ++ [d] ++ post = pre ++ d :: post := by simp
  rw [e1]
  have each : ∀ y ∈ pre ++ d :: post, okT n y ∧ (y = d ∨ 2 ≤ y.length) := by
    intro y hy
    rcases List.mem_append.1 hy with hy | hy
    · exact ⟨(okT_mem ho (by simp [hy])).2, Or.inr (okT_mem ho (by simp [hy])).1⟩
    · rcases List.mem_cons.1 hy with rfl | hy
      · exact ⟨hd, Or.inl rfl⟩
      · exact ⟨(okT_mem ho (by simp [hy])).2, Or.inr (okT_mem ho (by simp [hy])).1⟩
  split
  next hlt =>
    obtain ⟨p, l, r, q, hc, hj, hpos⟩ := joinK_pair (cs := pre ++ d :: post) (a := pre.length) (by simp) (by simpa using h2)
    have hpq : (∀ y ∈ p, 2 ≤ y.length) ∧ (∀ y ∈ q, 2 ≤ y.length) ∧ 2 ≤ (l ++ r).length := by
      rcases hpos with hp | hp
      · have h := List.append_inj hc (by rw [hp])
        obtain ⟨rfl, h⟩ := h
        obtain ⟨rfl, rfl⟩ := List.cons.inj h
        refine ⟨fun y hy => (okT_mem ho (by simp [hy])).1, fun y hy => (okT_mem ho (by simp [hy])).1, ?_⟩
        have := (okT_mem ho (c := r) (by simp)).1
        rw [List.length_append]
        omega
      · have hc' : pre ++ d :: post = (p ++ [l]) ++ r :: q := by rw [hc]; simp
        have h := List.append_inj hc' (by simp [hp])
        obtain ⟨rfl, h⟩ := h
        obtain ⟨rfl, rfl⟩ := List.cons.inj h
        refine ⟨fun y hy => (okT_mem ho (by simp [hy])).1, fun y hy => (okT_mem ho (by simp [hy])).1, ?_⟩
        have := (okT_mem ho (c := l) (by simp)).1
        rw [List.length_append]
        omega
    rw [hj]
    rw [hc] at each
    refine ⟨okT_succ fun y hy => ?_, ?_⟩
    · rcases List.mem_append.1 hy with hy | hy
      · rcases List.mem_append.1 hy with hy | hy
        · exact ⟨hpq.1 y hy, (each y (by simp [hy])).1⟩
        · exact ⟨halve_two hpq.2.2 y hy, halve_ok (okT_app (each l (by simp)).1 (each r (by simp)).1) y hy⟩
      · exact ⟨hpq.2.1 y hy, (each y (by simp [hy])).1⟩
    · have hl := congrArg List.length hc
      have := (halve_len (l ++ r)).1
      simp only [List.length_append, List.length_cons] at hl this ⊢
      omega
  next hge =>
    refine ⟨okT_succ fun y hy => ?_, by simp⟩
    rcases (each y hy).2 with rfl | h
    · exact ⟨by omega, hd⟩
    · exact ⟨h, (each y hy).1⟩

theorem del_step {n : Nat} {pre post : List (List (Kid n))} {c : List (Kid n)} {p : Int} (hw : way n (pre ++ c :: post) p = pre.length) : delT (n + 1) (pre ++ c :: post) p = mended (pre ++ c :: post) pre.length (delT n c p) := by
  show delO (pre ++ c :: post) (way n (pre ++ c :: post) p) (fun c => delT n c p) (pre ++ c :: post)[way n (pre ++ c :: post) p]? = _
  rw [hw, get_at]
  rfl

theorem del_all : ∀ (n : Nat) (t : List (Kid n)) (p : Int), okT n t → (n = 0 ∨ 2 ≤ t.length) → srt (ents n t) →
    ents n (delT n t p) = (ents n t).filter (fun x => x.place != p) ∧ okT n (delT n t p) ∧ t.length ≤ (delT n t p).length + 1
  | 0, t, p, _, _, hs => ⟨rfl, trivial, few_eq (es := t) hs p⟩
  | n + 1, cs, p, ho, hne, hs => by
    have hl : 2 ≤ List.length cs := by rcases hne with h | h; cases h; exact h
    obtain ⟨pre, c, post, rfl, hw, h1, h2⟩ := way_spec n cs p ho (ne_of_two hl) hs
    obtain ⟨k2, hoc⟩ := okT_mem ho (c := c) (by simp)
    have hm := kid_mid (n := n) (pre := pre) (post := post) (c := c)
    rw [hm] at hs
    obtain ⟨he, hod, hdl⟩ := del_all n c p hoc (Or.inr k2) (srt_mid hs)
    rw [del_step hw]
    obtain ⟨m1, m2⟩ := mended_ok (d := delT n c p) ho hod (by omega) hl
    refine ⟨?_, m1, m2⟩
    rw [mended_ents _ hl, kid_mid, he, hm, filt_mid h1 h2]

theorem has_all : ∀ (n : Nat) (t : List (Kid n)) (p : Int), okT n t → (n = 0 ∨ t ≠ []) → srt (ents n t) → hasT n t p = (ents n t).any fun x => x.place == p
  | 0, _, _, _, _, _ => rfl
  | n + 1, cs, p, ho, hne, hs => by
    obtain ⟨pre, c, post, rfl, hw, h1, h2⟩ := way_spec n cs p ho (by rcases hne with h | h; cases h; exact h) hs
    obtain ⟨k2, hoc⟩ := okT_mem ho (c := c) (by simp)
    have hm := kid_mid (n := n) (pre := pre) (post := post) (c := c)
    rw [hm] at hs
    have hh : hasT (n + 1) (pre ++ c :: post) p = hasT n c p := by
      show hasO (fun c => hasT n c p) (pre ++ c :: post)[way n (pre ++ c :: post) p]? = _
      rw [hw, get_at]
      rfl
    rw [hh, has_all n c p hoc (Or.inr (ne_of_two k2)) (srt_mid hs), hm, List.any_append, List.any_append]
    have a1 : (pre.flatMap (ents n)).any (fun x => x.place == p) = false := by
      rw [List.any_eq_false]; intro x hx; have := h1 x hx; simp; omega
    have a2 : (post.flatMap (ents n)).any (fun x => x.place == p) = false := by
      rw [List.any_eq_false]; intro x hx; have := h2 x hx; simp; omega
    rw [a1, a2]
    simp

def inside (lo hi : Int) (x : Ent) : Bool := Decidable.decide (lo ≤ x.place) && Decidable.decide (x.place ≤ hi)
theorem btwL_all (n : Nat) (f : List (Kid n) → List Ent) (lo hi : Int) : ∀ cs : List (List (Kid n)), okT (n + 1) cs → srt (cs.flatMap (ents n)) → (∀ c ∈ cs, f c = (ents n c).filter (inside lo hi)) → btwL n f lo hi cs = (cs.flatMap (ents n)).filter (inside lo hi)
  | [], _, _, _ => rfl
  | c :: r, ho, hs, hf => by
    obtain ⟨k2, hoc⟩ := okT_mem ho (c := c) (by simp)
    rw [List.flatMap_cons] at hs
    have ⟨s1, s2, s3⟩ := srt_app hs
    rw [btwL, btwL_all n f lo hi r (okT_succ fun x hx => okT_mem ho (by simp [hx])) s2 (fun x hx => hf x (by simp [hx])), List.flatMap_cons, List.filter_append]
    congr 1
    split
    · exact hf c (by simp)
    next hno =>
      symm
      refine filt_none fun x hx => ?_
      have hx1 := least_le hoc (ne_of_two k2) s1 x hx
      unfold inside
      by_cases hh : least n c ≤ hi
      · cases r with
        | nil => simp [hh, nextLow] at hno
        | cons d q =>
          obtain ⟨j2, hod⟩ := okT_mem ho (c := d) (by simp)
          obtain ⟨z, hz, hzl⟩ := least_mem hod (ne_of_two j2)
          have hlow : least n d ≤ lo := by simp [hh, nextLow] at hno; omega
          have := s3 x hx z (by rw [List.flatMap_cons]; exact List.mem_append_left _ hz)
          simp; omega
      · simp; omega
theorem btw_all : ∀ (n : Nat) (t : List (Kid n)) (lo hi : Int), okT n t → srt (ents n t) → btwT n t lo hi = (ents n t).filter (inside lo hi)
  | 0, _, _, _, _, _ => rfl
  | n + 1, cs, lo, hi, ho, hs => by
    refine btwL_all n _ lo hi cs ho hs fun c hc => ?_
    obtain ⟨k2, hoc⟩ := okT_mem ho hc
    refine btw_all n c lo hi hoc ?_
    obtain ⟨l1, l2, rfl⟩ := List.append_of_mem hc
    have h1 : srt ((List.flatMap (ents n) l1) ++ (List.flatMap (ents n) (c :: l2))) := by rw [← List.flatMap_append]; exact hs
    have h2 := (srt_app h1).2.1
    rw [List.flatMap_cons] at h2
    exact (srt_app h2).1

/-- A tree: how deep it is, and its root. -/
structure Tree where
  d : Nat
  t : List (Kid d)
def Tree.ents (x : Tree) : List Ent := Sq.ents x.d x.t
def tree0 : Tree := ⟨0, []⟩
def upT (n : Nat) (l : List (List (Kid n))) : Tree := match l with | [x] => ⟨n, x⟩ | l => ⟨n + 1, l⟩
def Tree.put (x : Tree) (e : Ent) : Tree := upT x.d (putT x.d x.t e)
def downT : (n : Nat) → List (Kid n) → Tree
  | 0, l => ⟨0, l⟩
  | n + 1, l => match l with | [x] => ⟨n, x⟩ | l => ⟨n + 1, l⟩
def Tree.del (x : Tree) (p : Int) : Tree := downT x.d (delT x.d x.t p)
structure Tree.ok (x : Tree) : Prop where
  kids : okT x.d x.t
  two : x.d = 0 ∨ 2 ≤ x.t.length
  sorted : srt x.ents
theorem Tree.ok.ne {x : Tree} (h : x.ok) : x.d = 0 ∨ x.t ≠ [] := h.two.imp id ne_of_two
theorem srt_ins {es : List Ent} (hs : srt es) (e : Ent) : srt (ins es e) := by
  unfold ins srt
  rw [List.pairwise_append]
  refine ⟨List.Pairwise.filter _ hs, ?_, ?_⟩
  · rw [List.pairwise_cons]
    exact ⟨fun x hx => by simpa using (List.mem_filter.1 hx).2, List.Pairwise.filter _ hs⟩
  · intro a ha b hb
    have h1 : a.place < e.place := by simpa using (List.mem_filter.1 ha).2
    rcases List.mem_cons.1 hb with rfl | hb
    · exact h1
    · have h2 : e.place < b.place := by simpa using (List.mem_filter.1 hb).2
      omega
theorem put_form : ∀ (n : Nat) (t : List (Kid n)) (e : Ent), ∃ q : List (Kid n), putT n t e = Sq.halve q ∨ putT n t e = [t]
  | 0, _, _ => ⟨_, Or.inl rfl⟩
  | n + 1, t, e => by
    show ∃ q : List (Kid (n + 1)), putO t (way n t e.place) (fun c => putT n c e) (show List (List (Kid n)) from t)[way n t e.place]? = Sq.halve q ∨ putO t (way n t e.place) (fun c => putT n c e) (show List (List (Kid n)) from t)[way n t e.place]? = [t]
    cases (show List (List (Kid n)) from t)[way n t e.place]? with
    | none => exact ⟨[], Or.inr rfl⟩
    | some c => exact ⟨_, Or.inl rfl⟩
theorem put_tree {x : Tree} (h : x.ok) (e : Ent) : (x.put e).ok ∧ (x.put e).ents = ins x.ents e := by
  have hp := put_ents x.d x.t e h.kids h.ne h.sorted
  obtain ⟨hx, h1, h2⟩ := put_ok x.d x.t e h.kids h.ne h.sorted
  have hsi := srt_ins h.sorted e
  unfold Tree.put upT
  obtain ⟨l, hl⟩ : ∃ l, l = putT x.d x.t e := ⟨_, rfl⟩
  rw [← hl] at hp hx h1 h2 ⊢
  match l, hl, hp, hx, h1, h2 with
  | [], _, _, _, h1, _ => simp at h1
  | [y], hl, hp, hx, _, _ =>
    have he : (⟨x.d, y⟩ : Tree).ents = ins x.ents e := by
      rw [← (show _ = ins x.ents e from hp)]
      show Sq.ents x.d y = _
      simp
    refine ⟨⟨(hx y (by simp)).1, ?_, ?_⟩, he⟩
    · rcases h.two with h | h
      · exact Or.inl h
      · exact Or.inr ((hx y (by simp)).2 h)
    · rw [he]; exact hsi
  | y :: z :: r, hl, hp, hx, _, h2 =>
    have he : (⟨x.d + 1, y :: z :: r⟩ : Tree).ents = ins x.ents e := hp
    have hlen : ∀ u ∈ y :: z :: r, 2 ≤ u.length := by
      -- two parts: they come of five entries
      intro u hu
      have h5 := put_form x.d x.t e
      obtain ⟨q, hq | hq⟩ := h5
      · rw [hq] at hl
        unfold Sq.halve at hl
        split at hl
        · cases hl
        · cases hl
          simp only [List.mem_cons, List.not_mem_nil, or_false] at hu
          rcases hu with rfl | rfl
          · simp; omega
          · simp; omega
      · rw [hq] at hl; cases hl
    refine ⟨⟨okT_succ fun u hu => ⟨hlen u hu, (hx u hu).1⟩, Or.inr (by simp), ?_⟩, he⟩
    rw [he]; exact hsi
theorem del_tree {x : Tree} (h : x.ok) (p : Int) : (x.del p).ok ∧ (x.del p).ents = x.ents.filter (fun y => y.place != p) := by
  obtain ⟨d, t⟩ := x
  obtain ⟨he, ho, hl⟩ := del_all d t p h.kids h.two h.sorted
  have hs : srt ((Sq.ents d t).filter (fun y => y.place != p)) := List.Pairwise.filter _ h.sorted
  cases d with
  | zero => exact ⟨⟨trivial, Or.inl rfl, hs⟩, he⟩
  | succ n =>
    have h2 : 2 ≤ t.length := by rcases h.two with h | h; cases h; exact h
    show (match delT (n + 1) t p with | [x] => (⟨n, x⟩ : Tree) | l => ⟨n + 1, l⟩).ok ∧ (match delT (n + 1) t p with | [x] => (⟨n, x⟩ : Tree) | l => ⟨n + 1, l⟩).ents = _
    obtain ⟨l, hq⟩ : ∃ l, l = delT (n + 1) t p := ⟨_, rfl⟩
    rw [← hq] at he ho hl ⊢
    match l, he, ho, hl with
    | [], _, _, hl => simp at hl; omega
    | [y], he, ho, _ =>
      have hy := okT_mem (n := n) (cs := [y]) ho (c := y) (by simp)
      have he' : (⟨n, y⟩ : Tree).ents = (Sq.ents (n + 1) t).filter (fun y => y.place != p) := by
        rw [← he]
        show Sq.ents n y = List.flatMap (Sq.ents n) [y]
        simp
      exact ⟨⟨hy.2, Or.inr hy.1, by rw [he']; exact hs⟩, he'⟩
    | y :: z :: r, he, ho, _ => exact ⟨⟨ho, Or.inr (by simp), by rw [show (⟨n + 1, y :: z :: r⟩ : Tree).ents = _ from he]; exact hs⟩, he⟩
theorem tree0_ok : tree0.ok := ⟨trivial, Or.inl rfl, List.Pairwise.nil⟩

end Sq
end Go.Proofs.YtamkfbelpfpjcaaGreatDoor

namespace Go.Proofs.YtamkfbelpfpjcaaGreatDoor
namespace Sq

/-- The lowest bytes of a number, the lowest first. -/
def lowB : Nat → Int → List UInt8
  | 0, _ => []
  | k + 1, n => UInt8.ofNat (n % 256).toNat :: lowB k (n / 256)
def pnum (n : Int) (k : Nat) : ByteArray := ⟨(lowB k n).reverse.toArray⟩
def txt (t : ByteArray) : ByteArray := pnum t.size 1 ++ t

structure Rd where
  rest : ByteArray
  short : Bool
def takeBad (r : Rd) (k : Int) : Bool := Decidable.decide (k < 0) || Decidable.decide ((r.rest.size : Int) < k) || r.short
def takeV (r : Rd) (k : Int) : ByteArray := if takeBad r k then nobytes else r.rest.extract 0 k.toNat
def takeN (r : Rd) (k : Int) : Rd := if takeBad r k then ⟨r.rest, true⟩ else ⟨r.rest.extract k.toNat r.rest.size, r.short⟩
def big (l : List UInt8) : Int := l.foldl (fun n b => n * 256 + (b.toNat : Int)) 0
def numV (r : Rd) (k : Int) : Int := big (takeV r k).data.toList
def txtV (r : Rd) : ByteArray := takeV (takeN r 1) (numV r 1)
def txtN (r : Rd) : Rd := takeN (takeN r 1) (numV r 1)
def doneR (r : Rd) : Bool := r.rest.toList.isEmpty && !r.short

def isNm (n : ByteArray) : Bool := Decidable.decide (1 ≤ n.size) && Decidable.decide (n.size ≤ 8)
/-- One column: its kind, its name. -/
def colV (r : Rd) : Col := ⟨txtV (takeN r 1), numV r 1⟩
def colN (r : Rd) : Rd := txtN (takeN r 1)
def colGood (c : Col) (i : Nat) : Bool := isNm c.name && (c.kind == 0 || (c.kind == 1 && Decidable.decide (0 < i)))
structure ColsR where
  cols : List Col
  rd : Rd
  good : Bool
def colsR : Nat → Nat → Rd → List Col → ColsR
  | 0, _, r, acc => ⟨acc, r, true⟩
  | f + 1, i, r, acc => if colGood (colV r) i then colsR f (i + 1) (colN r) (acc ++ [colV r]) else ⟨acc ++ [colV r], colN r, false⟩
/-- What a row of table 0 tells, name and columns. -/
def tabHead (row : ByteArray) : ByteArray × Int × Rd := (txtV ⟨row, false⟩, numV (txtN ⟨row, false⟩) 1, takeN (txtN ⟨row, false⟩) 1)
def tabGood (row : ByteArray) : Bool := isNm (tabHead row).1 && Decidable.decide (1 ≤ (tabHead row).2.1) && Decidable.decide ((tabHead row).2.1 ≤ 4)
def tabCols (row : ByteArray) : ColsR := if tabGood row then colsR (tabHead row).2.1.toNat 0 (tabHead row).2.2 [] else ⟨[], (tabHead row).2.2, false⟩
def toTable (row : ByteArray) : Option (ByteArray × List Col) := if (tabCols row).good && doneR (tabCols row).rd then some ((tabHead row).1, (tabCols row).cols) else none

structure CellsR where
  cells : List Val
  rd : Rd
  good : Bool
def cellStep (c : Col) (x : CellsR) : CellsR :=
  if c.kind == 1 then ⟨x.cells ++ [⟨1, 0, txtV x.rd⟩], txtN x.rd, x.good && Decidable.decide ((txtV x.rd).size ≤ 12)⟩
  else ⟨x.cells ++ [⟨0, numV x.rd 4 - 2147483648, nobytes⟩], takeN x.rd 4, x.good⟩
def cellsR (cols : List Col) (x : CellsR) : CellsR := cols.foldl (fun x c => cellStep c x) x
def rowCells (cols : List Col) (key : Int) (row : ByteArray) : CellsR := cellsR (cols.drop 1) ⟨[⟨0, key, nobytes⟩], ⟨row, false⟩, true⟩
def toCells (cols : List Col) (key : Int) (row : ByteArray) : Option (List Val) := if (rowCells cols key row).good && doneR (rowCells cols key row).rd then some (rowCells cols key row).cells else none

def ofCol (c : Col) : ByteArray := pnum c.kind 1 ++ txt c.name
def ofCols (b : ByteArray) (cols : List Col) : ByteArray := cols.foldl (fun b c => b ++ ofCol c) b
def ofTable (name : ByteArray) (cols : List Col) : ByteArray := ofCols (txt name ++ pnum cols.length 1) cols
def ofVal (v : Val) : ByteArray := if v.kind == 1 then txt v.text else pnum (v.number + 2147483648) 4
def ofVals (b : ByteArray) (l : List Val) : ByteArray := l.foldl (fun b v => b ++ ofVal v) b
def ofCells (l : List Val) : ByteArray := ofVals nobytes (l.drop 1)

def placeOf (t k : Int) : Int := t * 4294967296 + k + 2147483648
def keyAt (p : Int) : Int := p % 4294967296 - 2147483648

structure TabN where
  number : Int
  name : ByteArray
  cols : List Col
def tabOf (e : Ent) : Option TabN := (toTable e.row).map fun x => ⟨keyAt e.place, x.1, x.2⟩
def entsOf (x : Tree) (t : Int) : List Ent := btwT x.d x.t (placeOf t (-2147483648)) (placeOf t 2147483647)
def tabsOf (x : Tree) : List TabN := (entsOf x 0).filterMap tabOf
def rowOf (cols : List Col) (e : Ent) : Option (List Val) := toCells cols (keyAt e.place) e.row
def rowsOf (x : Tree) (t : TabN) : List (List Val) := (entsOf x t.number).filterMap (rowOf t.cols)

/- sizes and bounds -/
theorem lowB_len : ∀ (k : Nat) (n : Int), (lowB k n).length = k
  | 0, _ => rfl
  | k + 1, n => by rw [lowB, List.length_cons, lowB_len k]
theorem pnum_size (n : Int) (k : Nat) : (pnum n k).size = k := by
  show (lowB k n).reverse.toArray.size = k
  simp [lowB_len]
theorem txt_size (t : ByteArray) : (txt t).size = t.size + 1 := by
  unfold txt; rw [ByteArray.size_append, pnum_size]; omega
theorem takeV_size (r : Rd) (k : Int) : (takeV r k).size ≤ r.rest.size ∧ (takeV r k).size ≤ k.toNat := by
  unfold takeV
  split
  · exact ⟨Nat.zero_le _, Nat.zero_le _⟩
  · simp only [ByteArray.size_extract]; omega
theorem takeN_size (r : Rd) (k : Int) : (takeN r k).rest.size ≤ r.rest.size := by
  unfold takeN
  split
  · exact Nat.le_refl _
  · simp only [ByteArray.size_extract]; omega
theorem txtN_size (r : Rd) : (txtN r).rest.size ≤ r.rest.size := Nat.le_trans (takeN_size _ _) (takeN_size _ _)
theorem txtV_size (r : Rd) : (txtV r).size ≤ r.rest.size := Nat.le_trans (takeV_size _ _).1 (takeN_size _ _)
theorem big_go : ∀ (l : List UInt8) (a : Int) (m : Nat), 0 ≤ a → a < (256 : Int) ^ m → 0 ≤ l.foldl (fun n b => n * 256 + (b.toNat : Int)) a ∧ l.foldl (fun n b => n * 256 + (b.toNat : Int)) a < (256 : Int) ^ (m + l.length)
  | [], a, m, h0, h1 => ⟨h0, by simpa using h1⟩
  | b :: l, a, m, h0, h1 => by
    have hb := b.toNat_lt
    have := big_go l (a * 256 + (b.toNat : Int)) (m + 1) (by omega) (by rw [Int.pow_succ]; omega)
    rw [List.foldl_cons, List.length_cons, show m + (l.length + 1) = m + 1 + l.length by omega]
    exact this
theorem big_bd (l : List UInt8) : 0 ≤ big l ∧ big l < (256 : Int) ^ l.length := by
  have := big_go l 0 0 (by omega) (by decide)
  simpa [big] using this
theorem numV_bd (r : Rd) (k : Nat) (hk : k ≤ 4) : 0 ≤ numV r k ∧ numV r k < 4294967296 ∧ (k = 1 → numV r k < 256) := by
  have h := big_bd (takeV r k).data.toList
  have hs := (takeV_size r k).2
  have hl : (takeV r k).data.toList.length ≤ k := by
    have : (takeV r k).data.toList.length = (takeV r k).size := Array.length_toList
    rw [this]; rw [Int.toNat_natCast] at hs; exact hs
  unfold numV
  have mono : ∀ a b : Nat, a ≤ b → (256 : Int) ^ a ≤ (256 : Int) ^ b := fun a b hab => by
    have := Nat.pow_le_pow_right (n := 256) (by decide) hab
    have e : ∀ m : Nat, (256 : Int) ^ m = ((256 ^ m : Nat) : Int) := fun m => by simp
    rw [e, e]; exact Int.ofNat_le.2 this
  have h4 := mono _ 4 (Nat.le_trans hl hk)
  refine ⟨h.1, ?_, fun h1 => ?_⟩
  · have : (256 : Int) ^ 4 = 4294967296 := by decide
    omega
  · subst h1
    have h5 := mono _ 1 hl
    have : (256 : Int) ^ 1 = 256 := by decide
    omega

theorem colsR_len : ∀ (f i : Nat) (r : Rd) (acc : List Col), (colsR f i r acc).cols.length ≤ acc.length + f
  | 0, _, _, _ => Nat.le_refl _
  | f + 1, i, r, acc => by
    rw [colsR]
    split
    · have := colsR_len f (i + 1) (colN r) (acc ++ [colV r])
      simp at this; omega
    · simp
theorem tabCols_len (row : ByteArray) : (tabCols row).cols.length ≤ 4 := by
  unfold tabCols
  split
  · rename_i h
    have := colsR_len (tabHead row).2.1.toNat 0 (tabHead row).2.2 []
    unfold tabGood at h
    simp at h
    simp at this
    omega
  · simp
theorem toTable_cols {row : ByteArray} {x : ByteArray × List Col} (h : toTable row = some x) : x.2.length ≤ 4 := by
  unfold toTable at h
  split at h
  · cases h; exact tabCols_len row
  · cases h
theorem cellsR_len : ∀ (cols : List Col) (x : CellsR), (cellsR cols x).cells.length = x.cells.length + cols.length
  | [], _ => rfl
  | c :: q, x => by
    have := cellsR_len q (cellStep c x)
    unfold cellsR at this ⊢
    rw [List.foldl_cons, this]
    unfold cellStep
    split <;> simp <;> omega
theorem cellsR_ok : ∀ (cols : List Col) (x : CellsR), x.rd.rest.size ≤ 1000 → (∀ v ∈ x.cells, v.text.size ≤ 1000 ∧ -100000000000 ≤ v.number ∧ v.number ≤ 100000000000) → ∀ v ∈ (cellsR cols x).cells, v.text.size ≤ 1000 ∧ -100000000000 ≤ v.number ∧ v.number ≤ 100000000000
  | [], _, _, h => h
  | c :: q, x, hs, h => by
    have := cellsR_ok q (cellStep c x)
    unfold cellsR at this ⊢
    rw [List.foldl_cons]
    refine this ?_ ?_
    · unfold cellStep
      split
      · exact Nat.le_trans (txtN_size _) hs
      · exact Nat.le_trans (takeN_size _ _) hs
    · unfold cellStep
      split
      · intro v hv
        rcases List.mem_append.1 hv with hv | hv
        · exact h v hv
        · rw [List.mem_singleton.1 hv]
          exact ⟨Nat.le_trans (txtV_size _) hs, by show (-100000000000 : Int) ≤ 0; decide, by show (0 : Int) ≤ 100000000000; decide⟩
      · intro v hv
        rcases List.mem_append.1 hv with hv | hv
        · exact h v hv
        · rw [List.mem_singleton.1 hv]
          have := numV_bd x.rd 4 (Nat.le_refl _)
          refine ⟨by show nobytes.size ≤ 1000; decide, ?_, ?_⟩
          · show (-100000000000 : Int) ≤ numV x.rd 4 - 2147483648
            have h1 : 0 ≤ numV x.rd 4 := this.1
            omega
          · show numV x.rd 4 - 2147483648 ≤ 100000000000
            have h1 : numV x.rd 4 < 4294967296 := this.2.1
            omega

end Sq
end Go.Proofs.YtamkfbelpfpjcaaGreatDoor
