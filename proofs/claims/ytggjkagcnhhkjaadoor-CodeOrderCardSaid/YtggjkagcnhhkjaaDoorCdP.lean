/-
  Operations as a text, by definition: what is written is written of one list alone; two texts with a blank between are those of two lists; how a word's numbers are read.
-/
import Derived.Test.YtggjkagcnhhkjaaDoorRtRow
namespace Go.Proofs.YtggjkagcnhhkjaaDoor.Cd
open Go.Proofs.YtggjkagcnhhkjaaDoor Go.Proofs.YtggjkagcnhhkjaaDoor.Rt
set_option maxRecDepth 100000

/-- A kind's sign, and how many numbers stand behind it. -/
def sign : Int → List UInt8
  | 0 => [110]
  | 1 => [226, 134, 146]
  | 2 => [226, 134, 144]
  | 3 => [226, 136, 133]
  | 4 => [226, 137, 161]
  | 5 => [35]
  | _ => [195, 151]
def many : Int → Nat
  | 0 => 2
  | 1 => 3
  | 2 => 3
  | 3 => 1
  | 4 => 2
  | 5 => 1
  | _ => 0
def nums (x : O4) : List Int := [x.a, x.b, x.c]
/-- A number that may stand at place i. -/
def numOk (m i : Nat) (n : Int) : Prop := 0 ≤ n ∧ n ≤ 999 ∧ (m ≤ i → n = 0)
def may (x : O4) : Prop := 0 ≤ x.k ∧ x.k ≤ 6 ∧ numOk (many x.k) 0 x.a ∧ numOk (many x.k) 1 x.b ∧ numOk (many x.k) 2 x.c
instance (x : O4) : Decidable (may x) := by unfold may numOk; infer_instance
/-- A digit. -/
def dig (n : Int) : UInt8 := UInt8.ofNat (48 + n.toNat)
def digits (n : Int) : List UInt8 := if n < 10 then [dig n] else if n < 100 then [dig (n / 10), dig (n % 10)] else [dig (n / 100), dig (n / 10 % 10), dig (n % 10)]
/-- Numbers with commas between. -/
def commas : List Int → List UInt8
  | [] => []
  | [n] => digits n
  | n :: m :: l => digits n ++ 44 :: commas (m :: l)
def word (x : O4) : List UInt8 := sign x.k ++ commas ((nums x).take (many x.k))
/-- Words with blanks between. -/
def write : List O4 → List UInt8
  | [] => []
  | [x] => word x
  | x :: y :: l => word x ++ 32 :: write (y :: l)

/-- A byte of a digit. -/
def isDig (u : UInt8) : Prop := 48 ≤ u ∧ u ≤ 57
instance (u : UInt8) : Decidable (isDig u) := by unfold isDig; infer_instance
theorem dig_is : ∀ m : Nat, m < 10 → isDig (dig (m : Int)) := by decide
theorem dig_at {n : Int} (h0 : 0 ≤ n) (h : n < 10) : isDig (dig n) := by
  have := dig_is n.toNat (by omega)
  rwa [show ((n.toNat : Nat) : Int) = n by omega] at this
/-- What a digit tells. -/
def val (u : UInt8) : Int := (u.toNat : Int) - 48
theorem val_nat : ∀ m : Nat, m < 10 → val (dig (m : Int)) = m := by decide
theorem val_dig {n : Int} (h0 : 0 ≤ n) (h : n < 10) : val (dig n) = n := by
  have := val_nat n.toNat (by omega)
  rwa [show ((n.toNat : Nat) : Int) = n by omega] at this
theorem digits_all {n : Int} (h0 : 0 ≤ n) (h : n ≤ 999) : ∀ u ∈ digits n, isDig u := by
  intro u hu
  unfold digits at hu
  split at hu
  · obtain rfl := List.mem_singleton.1 hu
    exact dig_at h0 (by omega)
  · split at hu
    · simp only [List.mem_cons, List.not_mem_nil, or_false] at hu
      rcases hu with rfl | rfl
      · exact dig_at (by omega) (by omega)
      · exact dig_at (by omega) (by omega)
    · simp only [List.mem_cons, List.not_mem_nil, or_false] at hu
      rcases hu with rfl | rfl | rfl
      · exact dig_at (by omega) (by omega)
      · exact dig_at (by omega) (by omega)
      · exact dig_at (by omega) (by omega)
/-- What digits tell. -/
def told (l : List UInt8) : Int := l.foldl (fun n u => 10 * n + val u) 0
theorem told_digits {n : Int} (h0 : 0 ≤ n) (h : n ≤ 999) : told (digits n) = n := by
  unfold digits told
  split
  · simp only [List.foldl]
    rw [val_dig h0 (by omega)]
    omega
  · split
    · simp only [List.foldl]
      rw [val_dig (n := n / 10) (by omega) (by omega), val_dig (n := n % 10) (by omega) (by omega)]
      omega
    · simp only [List.foldl]
      rw [val_dig (n := n / 100) (by omega) (by omega), val_dig (n := n / 10 % 10) (by omega) (by omega), val_dig (n := n % 10) (by omega) (by omega)]
      omega
theorem digits_ne (n : Int) : digits n ≠ [] := by
  unfold digits
  split
  · simp
  · split <;> simp
/-- Up to the first byte that is not. -/
theorem span_unique {α : Type} {p : α → Prop} {a b c d : List α} (ha : ∀ u ∈ a, p u) (hb : ∀ u ∈ b, p u) (hc : ∀ u r, c = u :: r → ¬ p u) (hd : ∀ u r, d = u :: r → ¬ p u) (h : a ++ c = b ++ d) : a = b ∧ c = d := by
  induction a generalizing b with
  | nil =>
    cases b with
    | nil => exact ⟨rfl, h⟩
    | cons v b =>
      simp only [List.nil_append, List.cons_append] at h
      exact absurd (hb v (by simp)) (hc v _ h)
  | cons u a ih =>
    cases b with
    | nil =>
      simp only [List.nil_append, List.cons_append] at h
      exact absurd (ha u (by simp)) (hd u _ h.symm)
    | cons v b =>
      simp only [List.cons_append, List.cons.injEq] at h
      obtain ⟨rfl, h⟩ := h
      obtain ⟨h1, h2⟩ := ih (b := b) (fun w hw => ha w (by simp [hw])) (fun w hw => hb w (by simp [hw])) h
      exact ⟨by rw [h1], h2⟩
theorem digits_inj {n m : Int} (hn : 0 ≤ n ∧ n ≤ 999) (hm : 0 ≤ m ∧ m ≤ 999) (h : digits n = digits m) : n = m := by
  have := congrArg told h
  rwa [told_digits hn.1 hn.2, told_digits hm.1 hm.2] at this
theorem comma_no : ¬ isDig 44 := by decide
theorem commas_inj : ∀ {l m : List Int}, (∀ n ∈ l, 0 ≤ n ∧ n ≤ 999) → (∀ n ∈ m, 0 ≤ n ∧ n ≤ 999) → l.length = m.length → commas l = commas m → l = m
  | [], [], _, _, _, _ => rfl
  | [], _ :: _, _, _, h, _ => by simp at h
  | _ :: _, [], _, _, h, _ => by simp at h
  | [n], [m], hl, hm, _, h => by rw [digits_inj (hl n (by simp)) (hm m (by simp)) h]
  | [_], _ :: _ :: _, _, _, h, _ => by simp at h
  | _ :: _ :: _, [_], _, _, h, _ => by simp at h
  | n :: n' :: l, m :: m' :: r, hl, hm, hlen, h => by
    have h' : digits n ++ 44 :: commas (n' :: l) = digits m ++ 44 :: commas (m' :: r) := h
    obtain ⟨h1, h2⟩ := span_unique (p := isDig) (digits_all (hl n (by simp)).1 (hl n (by simp)).2) (digits_all (hm m (by simp)).1 (hm m (by simp)).2)
      (fun u r e => by cases e; exact comma_no) (fun u r e => by cases e; exact comma_no) h'
    have e1 := digits_inj (hl n (by simp)) (hm m (by simp)) h1
    simp only [List.cons.injEq, true_and] at h2
    have e2 := commas_inj (l := n' :: l) (m := m' :: r) (fun x hx => hl x (List.mem_cons_of_mem _ hx)) (fun x hx => hm x (List.mem_cons_of_mem _ hx)) (by simpa using hlen) h2
    rw [e1, e2]
theorem kinds {x : O4} (h : may x) : x.k = 0 ∨ x.k = 1 ∨ x.k = 2 ∨ x.k = 3 ∨ x.k = 4 ∨ x.k = 5 ∨ x.k = 6 := by
  obtain ⟨h1, h2, _⟩ := h
  omega
theorem num_all {x : O4} (h : may x) : ∀ n ∈ (nums x).take (many x.k), 0 ≤ n ∧ n ≤ 999 := by
  obtain ⟨_, _, h3, h4, h5⟩ := h
  intro n hn
  have := List.mem_of_mem_take hn
  simp only [nums, List.mem_cons, List.not_mem_nil, or_false] at this
  rcases this with rfl | rfl | rfl
  · exact ⟨h3.1, h3.2.1⟩
  · exact ⟨h4.1, h4.2.1⟩
  · exact ⟨h5.1, h5.2.1⟩
/-- Of two that may be, with one word, the kinds are the same. -/
theorem sign_inj {i j : Int} (hi : i = 0 ∨ i = 1 ∨ i = 2 ∨ i = 3 ∨ i = 4 ∨ i = 5 ∨ i = 6) (hj : j = 0 ∨ j = 1 ∨ j = 2 ∨ j = 3 ∨ j = 4 ∨ j = 5 ∨ j = 6) {l r : List UInt8} (h : sign i ++ l = sign j ++ r) : i = j ∧ l = r := by
  rcases hi with rfl | rfl | rfl | rfl | rfl | rfl | rfl <;> rcases hj with rfl | rfl | rfl | rfl | rfl | rfl | rfl <;> simp [sign] at h ⊢ <;> exact h
theorem nums_inj {x y : O4} (hx : may x) (hy : may y) (hk : x.k = y.k) (h : (nums x).take (many x.k) = (nums y).take (many y.k)) : x = y := by
  obtain ⟨k, a, b, c⟩ := x
  obtain ⟨k', a', b', c'⟩ := y
  have K := kinds hx
  obtain ⟨_, _, x1, x2, x3⟩ := hx
  obtain ⟨_, _, y1, y2, y3⟩ := hy
  dsimp only at hk h K x1 x2 x3 y1 y2 y3
  subst hk
  have e1 := x1.2.2
  have e2 := x2.2.2
  have e3 := x3.2.2
  have f1 := y1.2.2
  have f2 := y2.2.2
  have f3 := y3.2.2
  rcases K with rfl | rfl | rfl | rfl | rfl | rfl | rfl <;> simp [many, nums] at h e1 e2 e3 f1 f2 f3 <;> simp_all
theorem word_inj {x y : O4} (hx : may x) (hy : may y) (h : word x = word y) : x = y := by
  obtain ⟨hk, h2⟩ := sign_inj (kinds hx) (kinds hy) h
  refine nums_inj hx hy hk (commas_inj (num_all hx) (num_all hy) ?_ h2)
  simp [nums, hk]
theorem sign_blank (k : Int) : ∀ u ∈ sign k, u ≠ 32 := by
  intro u hu
  unfold sign at hu
  split at hu <;> simp at hu <;> (try rcases hu with rfl | rfl | rfl) <;> (try rcases hu with rfl | rfl) <;> (try subst hu) <;> decide
theorem sign_ne (k : Int) : sign k ≠ [] := by
  unfold sign
  split <;> simp
theorem dig_blank {u : UInt8} (h : isDig u) : u ≠ 32 := by
  rintro rfl
  exact absurd h (by decide)
theorem commas_blank : ∀ {l : List Int}, (∀ n ∈ l, 0 ≤ n ∧ n ≤ 999) → ∀ u ∈ commas l, u ≠ 32
  | [], _, u, hu => by simp [commas] at hu
  | [n], hl, u, hu => dig_blank (digits_all (hl n (by simp)).1 (hl n (by simp)).2 u hu)
  | n :: m :: l, hl, u, hu => by
    have hu' : u ∈ digits n ++ 44 :: commas (m :: l) := hu
    rcases List.mem_append.1 hu' with h | h
    · exact dig_blank (digits_all (hl n (by simp)).1 (hl n (by simp)).2 u h)
    · rcases List.mem_cons.1 h with rfl | h
      · decide
      · exact commas_blank (fun x hx => hl x (List.mem_cons_of_mem _ hx)) u h
/-- A word has no blank, and is not empty. -/
theorem word_blank {x : O4} (h : may x) : ∀ u ∈ word x, u ≠ 32 := by
  intro u hu
  rcases List.mem_append.1 hu with h1 | h1
  · exact sign_blank _ u h1
  · exact commas_blank (num_all h) u h1
theorem word_ne (x : O4) : word x ≠ [] := by
  unfold word
  intro h
  exact sign_ne _ (List.append_eq_nil_iff.1 h).1
theorem write_ne {x : O4} {l : List O4} : write (x :: l) ≠ [] := by
  cases l with
  | nil => exact word_ne x
  | cons y l => simp [write]
theorem write_cons (x y : O4) (l : List O4) : write (x :: y :: l) = word x ++ 32 :: write (y :: l) := rfl
/-- What is written is written of one list alone. -/
theorem write_inj : ∀ {l m : List O4}, (∀ x ∈ l, may x) → (∀ x ∈ m, may x) → write l = write m → l = m
  | [], [], _, _, _ => rfl
  | [], y :: m, _, _, h => absurd h.symm write_ne
  | x :: l, [], _, _, h => absurd h write_ne
  | [x], [y], hl, hm, h => by rw [word_inj (hl x (by simp)) (hm y (by simp)) h]
  | [x], y :: z :: m, hl, hm, h => by
    have h' : word x = word y ++ 32 :: write (z :: m) := h
    exact absurd rfl (word_blank (hl x (by simp)) 32 (by rw [h']; simp))
  | x :: y :: l, [z], hl, hm, h => by
    have h' : word x ++ 32 :: write (y :: l) = word z := h
    exact absurd rfl (word_blank (hm z (by simp)) 32 (by rw [← h']; simp))
  | x :: y :: l, z :: v :: m, hl, hm, h => by
    have h' : word x ++ 32 :: write (y :: l) = word z ++ 32 :: write (v :: m) := h
    obtain ⟨h1, h2⟩ := span_unique (p := fun u => u ≠ 32) (word_blank (hl x (by simp))) (word_blank (hm z (by simp))) (fun u r e => by cases e; simp) (fun u r e => by cases e; simp) h'
    simp only [List.cons.injEq, true_and] at h2
    rw [word_inj (hl x (by simp)) (hm z (by simp)) h1, write_inj (fun w hw => hl w (List.mem_cons_of_mem _ hw)) (fun w hw => hm w (List.mem_cons_of_mem _ hw)) h2]
theorem write_append : ∀ {l m : List O4}, l ≠ [] → m ≠ [] → write (l ++ m) = write l ++ 32 :: write m
  | [], _, h, _ => absurd rfl h
  | [x], [], _, h => absurd rfl h
  | [x], y :: m, _, _ => rfl
  | x :: y :: l, m, _, hm => by
    have := write_append (l := y :: l) (m := m) (by simp) hm
    show word x ++ 32 :: write (y :: l ++ m) = (word x ++ 32 :: write (y :: l)) ++ 32 :: write m
    rw [this]
    simp
/-- A text that is two with a blank between is that of two lists, where it is that of a list. -/
theorem write_split : ∀ {l : List O4} {a b : List UInt8}, (∀ x ∈ l, may x) → write l = a ++ 32 :: b → ∃ l1 l2, l = l1 ++ l2 ∧ write l1 = a ∧ write l2 = b ∧ l1 ≠ [] ∧ l2 ≠ []
  | [], a, b, _, h => by simp [write] at h
  | [x], a, b, hl, h => by
    have h' : word x = a ++ 32 :: b := h
    exact absurd rfl (word_blank (hl x (by simp)) 32 (by rw [h']; simp))
  | x :: y :: l, a, b, hl, h => by
    have h' : word x ++ 32 :: write (y :: l) = a ++ 32 :: b := h
    rcases List.append_eq_append_iff.1 h' with ⟨d, h1, h2⟩ | ⟨d, h1, h2⟩
    · cases d with
      | nil =>
        simp only [List.append_nil, List.nil_append, List.cons.injEq, true_and] at h1 h2
        exact ⟨[x], y :: l, rfl, h1.symm, h2, by simp, by simp⟩
      | cons u d =>
        simp only [List.cons_append, List.cons.injEq] at h2
        obtain ⟨rfl, h2⟩ := h2
        obtain ⟨l1, l2, e, e1, e2, n1, n2⟩ := write_split (l := y :: l) (fun w hw => hl w (List.mem_cons_of_mem _ hw)) h2
        cases l1 with
        | nil => exact absurd rfl n1
        | cons z l1 =>
          refine ⟨x :: z :: l1, l2, by rw [e]; rfl, ?_, e2, by simp, n2⟩
          rw [write_cons, e1, h1]
    · cases d with
      | nil =>
        simp only [List.append_nil, List.nil_append, List.cons.injEq, true_and] at h1 h2
        exact ⟨[x], y :: l, rfl, h1, h2.symm, by simp, by simp⟩
      | cons u d =>
        simp only [List.cons_append, List.cons.injEq] at h2
        obtain ⟨rfl, h2⟩ := h2
        exact absurd rfl (word_blank (hl x (by simp)) 32 (by rw [h1]; simp))
/-- How long a text is, at most. -/
theorem digits_len (n : Int) : (digits n).length ≤ 3 := by
  unfold digits
  split
  · simp
  · split <;> simp
theorem sign_len (k : Int) : (sign k).length ≤ 3 := by
  unfold sign
  split <;> simp
theorem commas_len : ∀ l : List Int, (commas l).length ≤ 4 * l.length
  | [] => by simp [commas]
  | [n] => by have := digits_len n; simp [commas]; omega
  | n :: m :: l => by
    have := digits_len n
    have h := commas_len (m :: l)
    show (digits n ++ 44 :: commas (m :: l)).length ≤ _
    simp only [List.length_append, List.length_cons] at h ⊢
    omega
theorem word_len (x : O4) : (word x).length ≤ 15 := by
  unfold word
  have h1 := sign_len x.k
  have h2 := commas_len ((nums x).take (many x.k))
  have h3 : ((nums x).take (many x.k)).length ≤ 3 := by rw [List.length_take]; exact Nat.le_trans (Nat.min_le_right _ _) (by simp [nums])
  rw [List.length_append]
  omega
theorem write_len : ∀ l : List O4, (write l).length ≤ 16 * l.length
  | [] => by simp [write]
  | [x] => by have := word_len x; simp [write]; omega
  | x :: y :: l => by
    have h1 := word_len x
    have h2 := write_len (y :: l)
    show (word x ++ 32 :: write (y :: l)).length ≤ _
    simp only [List.length_append, List.length_cons] at h2 ⊢
    omega
/-- How a word's numbers are read, byte by byte: at which one, and what they are so far. -/
def step (st : Nat × (Nat → Int)) (u : UInt8) : Option (Nat × (Nat → Int)) :=
  if u = 44 ∧ st.1 < 2 then some (st.1 + 1, st.2)
  else if isDig u ∧ st.2 st.1 < 1000 then some (st.1, Ls.upd st.2 st.1 (10 * st.2 st.1 + val u))
  else none
def scan : List UInt8 → Nat × (Nat → Int) → Option (Nat × (Nat → Int))
  | [], st => some st
  | u :: r, st => (step st u).bind (scan r)
theorem scan_append : ∀ (l r : List UInt8) (st : Nat × (Nat → Int)), scan (l ++ r) st = (scan l st).bind (scan r)
  | [], _, _ => rfl
  | u :: l, r, st => by
    show (step st u).bind (scan (l ++ r)) = ((step st u).bind (scan l)).bind (scan r)
    cases step st u with
    | none => rfl
    | some st' => exact scan_append l r st'
theorem dig_44 {u : UInt8} (h : isDig u) : ¬ u = 44 := by
  rintro rfl
  exact absurd h (by decide)
theorem step_dig {at_ : Nat} {f : Nat → Int} {n : Int} (h0 : 0 ≤ n) (h : n < 10) (hf : f at_ < 1000) : step (at_, f) (dig n) = some (at_, Ls.upd f at_ (10 * f at_ + n)) := by
  have hd := dig_at h0 h
  unfold step
  rw [if_neg (fun e => dig_44 hd e.1), if_pos ⟨hd, hf⟩, val_dig h0 h]
theorem upd_upd (f : Nat → Int) (k : Nat) (a b : Int) : Ls.upd (Ls.upd f k a) k b = Ls.upd f k b := by
  funext j
  unfold Ls.upd
  split <;> rfl
theorem upd_at (f : Nat → Int) (k : Nat) (a : Int) : Ls.upd f k a k = a := if_pos rfl
theorem scan_digits {at_ : Nat} {f : Nat → Int} {n : Int} (h0 : 0 ≤ n) (h : n ≤ 999) (hf : f at_ = 0) : scan (digits n) (at_, f) = some (at_, Ls.upd f at_ n) := by
  unfold digits
  split
  · simp only [scan]
    rw [step_dig h0 (by omega) (by omega), hf]
    simp only [Option.bind_some]
    rw [show 10 * 0 + n = n by omega]
  · split
    · simp only [scan]
      rw [step_dig (n := n / 10) (by omega) (by omega) (by omega), hf]
      simp only [Option.bind_some]
      rw [step_dig (n := n % 10) (by omega) (by omega) (by rw [upd_at]; omega), upd_at, upd_upd]
      simp only [Option.bind_some]
      rw [show 10 * (10 * 0 + n / 10) + n % 10 = n by omega]
    · simp only [scan]
      rw [step_dig (n := n / 100) (by omega) (by omega) (by omega), hf]
      simp only [Option.bind_some]
      rw [step_dig (n := n / 10 % 10) (by omega) (by omega) (by rw [upd_at]; omega), upd_at, upd_upd]
      simp only [Option.bind_some]
      rw [step_dig (n := n % 10) (by omega) (by omega) (by rw [upd_at]; omega), upd_at, upd_upd]
      simp only [Option.bind_some]
      rw [show 10 * (10 * (10 * 0 + n / 100) + n / 10 % 10) + n % 10 = n by omega]
theorem step_comma {at_ : Nat} {f : Nat → Int} (h : at_ < 2) : step (at_, f) 44 = some (at_ + 1, f) := if_pos ⟨rfl, h⟩
/-- What is read of a word's numbers is what they are. -/
theorem scan_word {x : O4} (h : may x) : ∃ i f, scan (commas ((nums x).take (many x.k))) (0, fun _ => 0) = some (i, f) ∧ f 0 = x.a ∧ f 1 = x.b ∧ f 2 = x.c := by
  have K := kinds h
  obtain ⟨_, _, x1, x2, x3⟩ := h
  obtain ⟨k, a, b, c⟩ := x
  dsimp only at K x1 x2 x3 ⊢
  have three : scan (digits a ++ 44 :: (digits b ++ 44 :: digits c)) (0, fun _ => 0) = some (2, Ls.upd (Ls.upd (Ls.upd (fun _ => 0) 0 a) 1 b) 2 c) := by
    rw [scan_append, scan_digits (f := fun _ => 0) x1.1 x1.2.1 rfl]
    simp only [Option.bind_some, scan]
    rw [step_comma (by omega)]
    simp only [Option.bind_some]
    rw [scan_append, scan_digits (at_ := 0 + 1) (f := Ls.upd (fun _ => 0) 0 a) x2.1 x2.2.1 rfl]
    simp only [Option.bind_some, scan]
    rw [step_comma (by omega)]
    simp only [Option.bind_some]
    rw [scan_digits (at_ := 0 + 1 + 1) (f := Ls.upd (Ls.upd (fun _ => 0) 0 a) (0 + 1) b) x3.1 x3.2.1 rfl]
  have two : scan (digits a ++ 44 :: digits b) (0, fun _ => 0) = some (1, Ls.upd (Ls.upd (fun _ => 0) 0 a) 1 b) := by
    rw [scan_append, scan_digits (f := fun _ => 0) x1.1 x1.2.1 rfl]
    simp only [Option.bind_some, scan]
    rw [step_comma (by omega)]
    simp only [Option.bind_some]
    rw [scan_digits (at_ := 0 + 1) (f := Ls.upd (fun _ => 0) 0 a) x2.1 x2.2.1 rfl]
  have one : scan (digits a) (0, fun _ => 0) = some (0, Ls.upd (fun _ => 0) 0 a) := scan_digits x1.1 x1.2.1 rfl
  have e1 := x1.2.2
  have e2 := x2.2.2
  have e3 := x3.2.2
  rcases K with rfl | rfl | rfl | rfl | rfl | rfl | rfl
  · exact ⟨_, _, two, rfl, rfl, (e3 (by decide)).symm⟩
  · exact ⟨_, _, three, rfl, rfl, rfl⟩
  · exact ⟨_, _, three, rfl, rfl, rfl⟩
  · exact ⟨_, _, one, rfl, (e2 (by decide)).symm, (e3 (by decide)).symm⟩
  · exact ⟨_, _, two, rfl, rfl, (e3 (by decide)).symm⟩
  · exact ⟨_, _, one, rfl, (e2 (by decide)).symm, (e3 (by decide)).symm⟩
  · exact ⟨0, fun _ => 0, rfl, (e1 (by decide)).symm, (e2 (by decide)).symm, (e3 (by decide)).symm⟩
end Go.Proofs.YtggjkagcnhhkjaaDoor.Cd
