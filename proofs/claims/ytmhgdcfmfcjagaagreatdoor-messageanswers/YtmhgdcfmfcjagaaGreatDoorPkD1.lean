import Derived.WalkKit
namespace Go.Proofs.YtmhgdcfmfcjagaaGreatDoor
namespace Cod
def digs (n : Nat) : List UInt8 := if n < 128 then [UInt8.ofNat n] else UInt8.ofNat (n % 128 + 128) :: digs (n / 128)
termination_by n
decreasing_by omega
theorem digs_small {n : Nat} (h : n < 128) : digs n = [UInt8.ofNat n] := by rw [digs, if_pos h]
theorem digs_great {n : Nat} (h : ¬ n < 128) : digs n = UInt8.ofNat (n % 128 + 128) :: digs (n / 128) := by rw [digs, if_neg h]
theorem digs_pos (n : Nat) : 0 < (digs n).length := by
  by_cases h : n < 128
  · simp [digs_small h]
  · simp [digs_great h]
theorem digs_len : ∀ (k n : Nat), n < 128 ^ (k + 1) → (digs n).length ≤ k + 1
  | 0, n, h => by rw [digs_small (by simpa using h)]; simp
  | k + 1, n, h => by
    by_cases hn : n < 128
    · rw [digs_small hn]; simp
    · rw [digs_great hn, List.length_cons]
      have : n / 128 < 128 ^ (k + 1) := by
        rw [Nat.div_lt_iff_lt_mul (by omega)]; rw [Nat.pow_succ] at h; exact h
      have := digs_len k (n / 128) this
      omega
theorem digs_len9 {n : Nat} (h : n ≤ 4611686018427387904) : (digs n).length ≤ 9 := by
  have e : 128 ^ (8 + 1) = 9223372036854775808 := by decide
  exact digs_len 8 n (by omega)
inductive Rd (α : Type) where
  | bad (e : Nat)
  | good (v : α) (rest : List UInt8)
def Rd.bind {α β : Type} (x : Rd α) (k : α → List UInt8 → Rd β) : Rd β :=
  match x with
  | .bad e => .bad e
  | .good v r => k v r
@[simp] theorem Rd.bind_bad {α β : Type} (e : Nat) (k : α → List UInt8 → Rd β) : (Rd.bad e).bind k = .bad e := rfl
@[simp] theorem Rd.bind_good {α β : Type} (v : α) (r : List UInt8) (k : α → List UInt8 → Rd β) : (Rd.good v r).bind k = k v r := rfl
theorem Rd.bind_eq_good {α β : Type} {x : Rd α} {k : α → List UInt8 → Rd β} {u : β} {r : List UInt8} (h : x.bind k = .good u r) : ∃ v r1, x = .good v r1 ∧ k v r1 = .good u r := by
  cases x with
  | bad e => cases h
  | good v r1 => exact ⟨v, r1, rfl, h⟩
def top : Nat := 4611686018427387904
def rdDig : List UInt8 → Nat → Nat → Rd Nat
  | [], i, _ => if i = 9 then .bad 20 else .bad 21
  | b :: r, i, acc =>
    if i = 9 then .bad 20
    else if 128 ≤ b.toNat then rdDig r (i + 1) (acc + (b.toNat % 128) * 128 ^ i)
    else if b.toNat = 0 ∧ 0 < i then .bad 23
    else if top < acc + b.toNat * 128 ^ i then .bad 20
    else .good (acc + b.toNat * 128 ^ i) r
def rdNum (s : List UInt8) : Rd Nat := rdDig s 0 0
def rdByte : List UInt8 → Rd Nat
  | [] => .bad 21
  | b :: r => .good b.toNat r
def rdMany (s : List UInt8) (most : Int) : Rd Nat :=
  if most < 0 then .bad 1 else (rdNum s).bind fun n r => if most < (n : Int) then .bad 22 else .good n r
def rdRaw (s : List UInt8) (n : Int) : Rd (List UInt8) :=
  if n < 0 then .bad 1 else if (s.length : Int) < n then .bad 21 else .good (s.take n.toNat) (s.drop n.toNat)
def rdText (s : List UInt8) (most : Int) : Rd (List UInt8) := (rdMany s most).bind fun n r => rdRaw r n
def rdTextsN (most : Int) : Nat → List (List UInt8) → List UInt8 → Rd (List (List UInt8))
  | 0, l, s => .good l s
  | n + 1, l, s => (rdText s most).bind fun t r => rdTextsN most n (l ++ [t]) r
def rdTexts (s : List UInt8) (many most : Int) : Rd (List (List UInt8)) :=
  if most < 0 then .bad 1 else (rdMany s many).bind fun n r => rdTextsN most n [] r
def rdHashN : Nat → List (List UInt8) → List UInt8 → Rd (List (List UInt8))
  | 0, l, s => .good l s
  | n + 1, l, s => rdHashN n (l ++ [s.take 32]) (s.drop 32)
def rdHashes (s : List UInt8) (many : Int) : Rd (List (List UInt8)) :=
  (rdMany s many).bind fun n r => if r.length / 32 < n then .bad 21 else rdHashN n [] r
def rdRiseN : Nat → Nat → List Nat → List UInt8 → Rd (List Nat)
  | 0, _, l, s => .good l s
  | n + 1, least, l, s => (rdNum s).bind fun a r => if top < least + a then .bad 20 else rdRiseN n (least + a + 1) (l ++ [least + a]) r
def rdRising (s : List UInt8) (many : Int) : Rd (List Nat) := (rdMany s many).bind fun n r => rdRiseN n 0 [] r
def wrText (s : List UInt8) : List UInt8 := digs s.length ++ s
def wrTexts (l : List (List UInt8)) : List UInt8 := digs l.length ++ (l.map wrText).flatten
def wrHashes (l : List (List UInt8)) : List UInt8 := digs l.length ++ l.flatten
def wrRise : Nat → List Nat → List UInt8
  | _, [] => []
  | least, n :: l => digs (n - least) ++ wrRise (n + 1) l
def wrRising (l : List Nat) : List UInt8 := digs l.length ++ wrRise 0 l
structure Pf {α : Type} (R : List UInt8 → Rd α) : Prop where
  ends : ∀ s v r, R s = .good v r → ∃ a, s = a ++ r
  same : ∀ a b v, R (a ++ b) = .good v b → ∀ b', R (a ++ b') = .good v b'
  short : ∀ a b v, R (a ++ b) = .good v b → ∀ p q, a = p ++ q → q ≠ [] → R p = .bad 21
theorem append_cancel {a a' b b' : List UInt8} (h : a ++ b = a' ++ b') (hl : b.length = b'.length) : a = a' ∧ b = b' := List.append_inj' h hl
theorem Pf.bind {α β : Type} {R : List UInt8 → Rd α} {K : α → List UInt8 → Rd β} (h : Pf R) (k : ∀ v, Pf (K v)) : Pf fun s => (R s).bind K where
  ends := fun s v r e => by
    obtain ⟨u, r1, e1, e2⟩ := Rd.bind_eq_good e
    obtain ⟨a, rfl⟩ := h.ends _ _ _ e1
    obtain ⟨b, rfl⟩ := (k u).ends _ _ _ e2
    exact ⟨a ++ b, by simp⟩
  same := fun a b v e b' => by
    obtain ⟨u, r1, e1, e2⟩ := Rd.bind_eq_good e
    obtain ⟨a1, h1⟩ := h.ends _ _ _ e1
    obtain ⟨a2, rfl⟩ := (k u).ends _ _ _ e2
    rw [← List.append_assoc] at h1
    obtain ⟨rfl, _⟩ := append_cancel h1 rfl
    rw [List.append_assoc] at e1
    have g1 := h.same _ _ _ e1 (a2 ++ b')
    have g2 := (k u).same _ _ _ e2 b'
    show (R (a1 ++ a2 ++ b')).bind K = _
    rw [List.append_assoc, g1, Rd.bind_good, g2]
  short := fun a b v e p q hpq hq => by
    obtain ⟨u, r1, e1, e2⟩ := Rd.bind_eq_good e
    obtain ⟨a1, h1⟩ := h.ends _ _ _ e1
    obtain ⟨a2, rfl⟩ := (k u).ends _ _ _ e2
    rw [← List.append_assoc] at h1
    obtain ⟨rfl, _⟩ := append_cancel h1 rfl
    rw [List.append_assoc] at e1
    show (R p).bind K = _
    rcases Nat.lt_or_ge p.length a1.length with hl | hl
    · -- p is a beginning of a1
      have hp : a1 = p ++ (a1.drop p.length) := by
        have : (a1 ++ a2).take p.length = (p ++ q).take p.length := by rw [hpq]
        rw [List.take_append_of_le_length (by omega), List.take_left'] at this
        · conv => lhs; rw [← List.take_append_drop p.length a1, this]
        · rfl
      rw [h.short _ _ _ e1 p (a1.drop p.length) hp (by intro hz; have := congrArg List.length hz; simp at this; omega)]
      rfl
    · have hp : p = a1 ++ p.drop a1.length := by
        have : (a1 ++ a2).take a1.length = (p ++ q).take a1.length := by rw [hpq]
        rw [List.take_append_of_le_length (by omega), List.take_append_of_le_length (by omega), List.take_length] at this
        conv => lhs; rw [← List.take_append_drop a1.length p, ← this]
      have hq2 : a2 = p.drop a1.length ++ q := by
        rw [hp, List.append_assoc] at hpq
        exact List.append_cancel_left hpq
      rw [hp, h.same _ _ _ e1 (p.drop a1.length), Rd.bind_good]
      exact (k u).short _ _ _ e2 _ q hq2 hq
theorem Pf.pure {α : Type} (v : α) : Pf fun s => Rd.good v s where
  ends := fun s u r e => ⟨[], by injection e⟩
  same := fun a b u e b' => by
    injection e with e1 e2
    have : a = [] := by have := congrArg List.length e2; simp at this; exact this
    subst this e1; rfl
  short := fun a b u e p q hpq hq => by
    injection e with e1 e2
    have : a = [] := by have := congrArg List.length e2; simp at this; exact this
    subst this
    have := congrArg List.length hpq
    rw [List.length_append, List.length_nil] at this
    exact absurd (List.length_eq_zero_iff.1 (show q.length = 0 by omega)) hq
theorem Pf.bad {α : Type} (n : Nat) : Pf fun _ : List UInt8 => (Rd.bad n : Rd α) where
  ends := fun s u r e => by cases e
  same := fun a b u e b' => by cases e
  short := fun a b u e p q hpq hq => by cases e
theorem Pf.ite {α : Type} {c : Prop} [Decidable c] {R S : List UInt8 → Rd α} (h : Pf R) (k : Pf S) : Pf fun s => if c then R s else S s := by
  by_cases hc : c
  · simp only [if_pos hc]; exact h
  · simp only [if_neg hc]; exact k
theorem pf_dig (i acc : Nat) : Pf fun s => rdDig s i acc := by
  have main : ∀ (s : List UInt8) (i acc : Nat) v r, rdDig s i acc = .good v r → ∃ a, s = a ++ r ∧ (∀ b', rdDig (a ++ b') i acc = .good v b') ∧ (∀ p q, a = p ++ q → q ≠ [] → rdDig p i acc = .bad 21) := by
    intro s
    induction s with
    | nil => intro i acc v r e; rw [rdDig] at e; split at e <;> cases e
    | cons b s ih =>
      intro i acc v r e
      rw [rdDig] at e
      by_cases h9 : i = 9
      · rw [if_pos h9] at e; cases e
      rw [if_neg h9] at e
      by_cases hb : 128 ≤ b.toNat
      · rw [if_pos hb] at e
        obtain ⟨a, rfl, h2, h3⟩ := ih _ _ _ _ e
        refine ⟨b :: a, rfl, fun b' => ?_, fun p q hpq hq => ?_⟩
        · rw [List.cons_append, rdDig, if_neg h9, if_pos hb]; exact h2 b'
        · cases p with
          | nil => rw [rdDig, if_neg h9]
          | cons c p =>
            rw [List.cons_append] at hpq
            injection hpq with e1 e2
            subst e1
            rw [rdDig, if_neg h9, if_pos hb]
            exact h3 p q e2 hq
      · rw [if_neg hb] at e
        by_cases h0 : b.toNat = 0 ∧ 0 < i
        · rw [if_pos h0] at e; cases e
        rw [if_neg h0] at e
        by_cases ht : top < acc + b.toNat * 128 ^ i
        · rw [if_pos ht] at e; cases e
        rw [if_neg ht] at e
        injection e with e1 e2
        subst e1 e2
        refine ⟨[b], rfl, fun b' => ?_, fun p q hpq hq => ?_⟩
        · rw [List.cons_append, rdDig, if_neg h9, if_neg hb, if_neg h0, if_neg ht]; rfl
        · cases p with
          | nil => rw [rdDig, if_neg h9]
          | cons c p =>
            rw [List.cons_append] at hpq
            injection hpq with e1 e2
            have := congrArg List.length e2
            rw [List.length_append, List.length_nil] at this
            exact absurd (List.length_eq_zero_iff.1 (show q.length = 0 by omega)) hq
  refine ⟨fun s v r e => ?_, fun a b v e b' => ?_, fun a b v e p q hpq hq => ?_⟩
  · obtain ⟨a, h, _⟩ := main _ _ _ _ _ e; exact ⟨a, h⟩
  · obtain ⟨a1, h1, h2, _⟩ := main _ _ _ _ _ e
    obtain ⟨rfl, _⟩ := append_cancel h1 rfl
    exact h2 b'
  · obtain ⟨a1, h1, _, h3⟩ := main _ _ _ _ _ e
    obtain ⟨rfl, _⟩ := append_cancel h1 rfl
    exact h3 p q hpq hq
theorem pf_num : Pf rdNum := pf_dig 0 0
theorem pf_byte : Pf rdByte where
  ends := fun s v r e => by
    cases s with
    | nil => cases e
    | cons b s => injection e with e1 e2; subst e2; exact ⟨[b], rfl⟩
  same := fun a b v e b' => by
    match a, e with
    | [], e =>
      cases b with
      | nil => cases e
      | cons c b => injection e with e1 e2; have := congrArg List.length e2; simp at this
    | [c], e => injection e with e1 e2; subst e1; rfl
    | c :: d :: a, e => injection e with e1 e2; have := congrArg List.length e2; simp at this; omega
  short := fun a b v e p q hpq hq => by
    match a, e with
    | [], e =>
      cases b with
      | nil => cases e
      | cons c b => injection e with e1 e2; have := congrArg List.length e2; simp at this
    | [c], e =>
      cases p with
      | nil => rfl
      | cons d p =>
        rw [List.cons_append] at hpq
        injection hpq with e1 e2
        have := congrArg List.length e2
        rw [List.length_append, List.length_nil] at this
        exact absurd (List.length_eq_zero_iff.1 (show q.length = 0 by omega)) hq
    | c :: d :: a, e => injection e with e1 e2; have := congrArg List.length e2; simp at this; omega
theorem pf_many (most : Int) : Pf fun s => rdMany s most :=
  Pf.ite (Pf.bad 1) (Pf.bind pf_num fun n => Pf.ite (Pf.bad 22) (Pf.pure n))
theorem pf_raw (n : Int) : Pf fun s => rdRaw s n := by
  by_cases h0 : n < 0
  · simp only [rdRaw, if_pos h0]; exact Pf.bad 1
  obtain ⟨m, rfl⟩ := Int.eq_ofNat_of_zero_le (show 0 ≤ n by omega)
  have key : ∀ s v r, rdRaw s (m : Int) = .good v r → m ≤ s.length ∧ v = s.take m ∧ r = s.drop m := by
    intro s v r e
    rw [rdRaw, if_neg h0] at e
    by_cases hl : (s.length : Int) < (m : Int)
    · rw [if_pos hl] at e; cases e
    · rw [if_neg hl] at e; injection e with e1 e2; simp at e1 e2; exact ⟨by omega, e1.symm, e2.symm⟩
  have mk : ∀ s, m ≤ s.length → rdRaw s (m : Int) = .good (s.take m) (s.drop m) := by
    intro s hs
    rw [rdRaw, if_neg h0, if_neg (by omega)]; simp
  have len : ∀ a b v, rdRaw (a ++ b) (m : Int) = .good v b → a.length = m ∧ v = a := by
    intro a b v e
    obtain ⟨h1, h2, h3⟩ := key _ _ _ e
    have := congrArg List.length h3
    simp at this h1
    have hm : a.length = m := by omega
    exact ⟨hm, by rw [h2, ← hm, List.take_left]⟩
  refine ⟨fun s v r e => ?_, fun a b v e b' => ?_, fun a b v e p q hpq hq => ?_⟩
  · obtain ⟨_, h2, h3⟩ := key _ _ _ e
    exact ⟨s.take m, by rw [h3, List.take_append_drop]⟩
  · obtain ⟨h1, h2⟩ := len _ _ _ e
    rw [mk _ (by simp; omega), ← h1, List.take_left, List.drop_left, h2]
  · obtain ⟨h1, _⟩ := len _ _ _ e
    have hp : p.length < m := by
      have := congrArg List.length hpq
      have hq' : 0 < q.length := by cases q <;> simp at hq ⊢
      simp at this; omega
    rw [rdRaw, if_neg h0, if_pos (by omega)]
theorem pf_text (most : Int) : Pf fun s => rdText s most := Pf.bind (pf_many most) fun n => pf_raw n
theorem pf_textsN (most : Int) : ∀ n l, Pf (rdTextsN most n l)
  | 0, l => Pf.pure l
  | n + 1, l => Pf.bind (pf_text most) fun t => pf_textsN most n (l ++ [t])
theorem pf_texts (many most : Int) : Pf fun s => rdTexts s many most := Pf.ite (Pf.bad 1) (Pf.bind (pf_many many) fun n => pf_textsN most n [])
theorem pf_riseN : ∀ n least l, Pf (rdRiseN n least l)
  | 0, _, l => Pf.pure l
  | n + 1, least, l => Pf.bind pf_num fun a => Pf.ite (Pf.bad 20) (pf_riseN n (least + a + 1) (l ++ [least + a]))
theorem pf_rising (many : Int) : Pf fun s => rdRising s many := Pf.bind (pf_many many) fun n => pf_riseN n 0 []
theorem hashN_eq : ∀ n l s, n * 32 ≤ s.length → ∃ L, rdHashN n l s = .good (l ++ L) (s.drop (n * 32)) ∧ L.flatten = s.take (n * 32) ∧ L.length = n ∧ ∀ t ∈ L, t.length = 32
  | 0, l, s, _ => ⟨[], by simp [rdHashN], by simp, rfl, by simp⟩
  | n + 1, l, s, h => by
    obtain ⟨L, h1, h2, h3, h4⟩ := hashN_eq n (l ++ [s.take 32]) (s.drop 32) (by simp; omega)
    refine ⟨s.take 32 :: L, ?_, ?_, by simp [h3], ?_⟩
    · rw [rdHashN, h1]; simp [Nat.succ_mul, Nat.add_comm]
    · rw [List.flatten_cons, h2, ← List.take_add]; congr 1; omega
    · intro t ht
      rcases List.mem_cons.1 ht with rfl | ht
      · simp; omega
      · exact h4 t ht
theorem hashN_of : ∀ (L : List (List UInt8)) l b, (∀ t ∈ L, t.length = 32) → rdHashN L.length l (L.flatten ++ b) = .good (l ++ L) b
  | [], l, b, _ => by simp [rdHashN]
  | t :: L, l, b, h => by
    have ht := h t (by simp)
    rw [List.length_cons, rdHashN, List.flatten_cons, List.append_assoc, List.take_append_of_le_length (by omega), List.take_of_length_le (by omega), List.drop_append_of_le_length (by omega), List.drop_of_length_le (by omega), List.nil_append, hashN_of L _ b (fun u hu => h u (by simp [hu]))]
    simp
theorem flatten32 : ∀ (L : List (List UInt8)), (∀ t ∈ L, t.length = 32) → L.flatten.length = L.length * 32
  | [], _ => rfl
  | t :: L, h => by
    have ht := h t (by simp)
    rw [List.flatten_cons, List.length_append, flatten32 L (fun u hu => h u (by simp [hu])), List.length_cons]
    omega
def rdHashB (n : Nat) (r : List UInt8) : Rd (List (List UInt8)) := if r.length / 32 < n then .bad 21 else rdHashN n [] r
theorem hashB_eq {n : Nat} {r : List UInt8} {v b} (h : rdHashB n r = .good v b) : r = v.flatten ++ b ∧ v.length = n ∧ ∀ t ∈ v, t.length = 32 := by
  rw [rdHashB] at h
  by_cases hc : r.length / 32 < n
  · rw [if_pos hc] at h; cases h
  rw [if_neg hc] at h
  obtain ⟨L, h1, h2, h3, h4⟩ := hashN_eq n [] r (by omega)
  rw [h1] at h
  injection h with e1 e2
  simp at e1
  subst e1 e2
  exact ⟨by rw [h2, List.take_append_drop], h3, h4⟩
theorem hashB_of {v : List (List UInt8)} (h : ∀ t ∈ v, t.length = 32) (b : List UInt8) : rdHashB v.length (v.flatten ++ b) = .good v b := by
  have := flatten32 v h
  rw [rdHashB, if_neg (by rw [List.length_append]; omega), hashN_of v [] b h]; rfl
theorem pf_hashB (n : Nat) : Pf (rdHashB n) where
  ends := fun s v r e => ⟨_, (hashB_eq e).1⟩
  same := fun a b v e b' => by
    obtain ⟨h1, rfl, h3⟩ := hashB_eq e
    obtain ⟨rfl, _⟩ := append_cancel h1 rfl
    exact hashB_of h3 b'
  short := fun a b v e p q hpq hq => by
    obtain ⟨h1, rfl, h3⟩ := hashB_eq e
    obtain ⟨rfl, _⟩ := append_cancel h1 rfl
    have := flatten32 v h3
    have hl := congrArg List.length hpq
    have hq' : 0 < q.length := by cases q <;> simp at hq ⊢
    rw [List.length_append] at hl
    rw [rdHashB, if_pos (by omega)]
theorem pf_hashes (many : Int) : Pf fun s => rdHashes s many := Pf.bind (pf_many many) fun n => pf_hashB n
theorem dig_there : ∀ (n i acc : Nat) (b : List UInt8), acc + n * 128 ^ i ≤ top → (0 < i → 0 < n) → rdDig (digs n ++ b) i acc = .good (acc + n * 128 ^ i) b := by
  intro n
  induction n using Nat.strongRecOn with
  | ind n ih =>
    intro i acc b ht hi
    have h9 : i ≠ 9 := by
      rintro rfl
      have := hi (by omega)
      have e : 128 ^ 9 = 9223372036854775808 := by decide
      rw [e, top] at ht
      omega
    by_cases h : n < 128
    · rw [digs_small h, List.cons_append, rdDig, if_neg h9]
      have e : (UInt8.ofNat n).toNat = n := by simp; omega
      rw [e, if_neg (by omega), if_neg (by omega), if_neg (by omega)]
      rfl
    · rw [digs_great h, List.cons_append, rdDig, if_neg h9]
      have e : (UInt8.ofNat (n % 128 + 128)).toNat = n % 128 + 128 := by simp; omega
      rw [e, if_pos (by omega), show (n % 128 + 128) % 128 = n % 128 from by omega]
      have hs : acc + n % 128 * 128 ^ i + n / 128 * 128 ^ (i + 1) = acc + n * 128 ^ i := by
        rw [Nat.pow_succ, Nat.mul_comm (128 ^ i) 128, ← Nat.mul_assoc, Nat.add_assoc, ← Nat.add_mul]
        congr 2; omega
      rw [ih (n / 128) (by omega) (i + 1) _ b (by rw [hs]; exact ht) (fun _ => by omega), hs]
theorem num_there {n : Nat} (h : n ≤ top) (b : List UInt8) : rdNum (digs n ++ b) = .good n b := by
  rw [rdNum, dig_there n 0 0 b (by simpa using h) (by omega)]; simp
theorem dig_back : ∀ (s : List UInt8) (i acc v : Nat) (r : List UInt8), rdDig s i acc = .good v r → ∃ n, s = digs n ++ r ∧ v = acc + n * 128 ^ i ∧ v ≤ top ∧ (0 < i → 0 < n) := by
  intro s
  induction s with
  | nil => intro i acc v r e; rw [rdDig] at e; split at e <;> cases e
  | cons b s ih =>
    intro i acc v r e
    rw [rdDig] at e
    by_cases h9 : i = 9
    · rw [if_pos h9] at e; cases e
    rw [if_neg h9] at e
    have hb256 := UInt8.toNat_lt b
    by_cases hb : 128 ≤ b.toNat
    · rw [if_pos hb] at e
      obtain ⟨n, rfl, rfl, h3, h4⟩ := ih _ _ _ _ e
      have h4 := h4 (by omega)
      have hs : acc + b.toNat % 128 * 128 ^ i + n * 128 ^ (i + 1) = acc + (n * 128 + b.toNat % 128) * 128 ^ i := by
        rw [Nat.pow_succ, Nat.mul_comm (128 ^ i) 128, ← Nat.mul_assoc, Nat.add_assoc, ← Nat.add_mul]
        congr 2; omega
      refine ⟨n * 128 + b.toNat % 128, ?_, hs, h3, fun _ => by omega⟩
      rw [digs_great (n := n * 128 + b.toNat % 128) (by omega), show (n * 128 + b.toNat % 128) / 128 = n from by omega, show (n * 128 + b.toNat % 128) % 128 + 128 = b.toNat from by omega]
      simp
    · rw [if_neg hb] at e
      by_cases h0 : b.toNat = 0 ∧ 0 < i
      · rw [if_pos h0] at e; cases e
      rw [if_neg h0] at e
      by_cases ht : top < acc + b.toNat * 128 ^ i
      · rw [if_pos ht] at e; cases e
      rw [if_neg ht] at e
      injection e with e1 e2
      subst e1 e2
      refine ⟨b.toNat, by rw [digs_small (by omega)]; simp, rfl, by omega, fun _ => by omega⟩
theorem num_back {s : List UInt8} {v : Nat} {r : List UInt8} (h : rdNum s = .good v r) : s = digs v ++ r ∧ v ≤ top := by
  obtain ⟨n, h1, h2, h3, _⟩ := dig_back s 0 0 v r h
  simp at h2; subst h2
  exact ⟨h1, h3⟩
theorem many_there {n : Nat} {most : Int} (h : n ≤ top) (hm : (n : Int) ≤ most) (b : List UInt8) : rdMany (digs n ++ b) most = .good n b := by
  rw [rdMany, if_neg (by omega), num_there h, Rd.bind_good, if_neg (by omega)]
theorem many_back {s : List UInt8} {most : Int} {n : Nat} {r : List UInt8} (h : rdMany s most = .good n r) : s = digs n ++ r ∧ n ≤ top ∧ (n : Int) ≤ most ∧ 0 ≤ most := by
  rw [rdMany] at h
  by_cases hm : most < 0
  · rw [if_pos hm] at h; cases h
  rw [if_neg hm] at h
  obtain ⟨v, r1, e1, e2⟩ := Rd.bind_eq_good h
  by_cases hc : most < (v : Int)
  · rw [if_pos hc] at e2; cases e2
  rw [if_neg hc] at e2
  injection e2 with e2 e3
  subst e2 e3
  obtain ⟨g1, g2⟩ := num_back e1
  exact ⟨g1, g2, by omega, by omega⟩
theorem raw_there (t b : List UInt8) : rdRaw (t ++ b) (t.length : Int) = .good t b := by
  rw [rdRaw, if_neg (by omega), if_neg (by rw [List.length_append]; omega)]; simp
theorem raw_back {s : List UInt8} {n : Int} {t r : List UInt8} (h : rdRaw s n = .good t r) : s = t ++ r ∧ (t.length : Int) = n := by
  rw [rdRaw] at h
  by_cases h0 : n < 0
  · rw [if_pos h0] at h; cases h
  rw [if_neg h0] at h
  by_cases hl : (s.length : Int) < n
  · rw [if_pos hl] at h; cases h
  rw [if_neg hl] at h
  injection h with e1 e2
  subst e1 e2
  exact ⟨by simp, by simp; omega⟩
theorem text_there {t : List UInt8} {most : Int} (h : t.length ≤ top) (hm : (t.length : Int) ≤ most) (b : List UInt8) : rdText (wrText t ++ b) most = .good t b := by
  rw [rdText, wrText, List.append_assoc, many_there h hm, Rd.bind_good, raw_there]
theorem text_back {s : List UInt8} {most : Int} {t r : List UInt8} (h : rdText s most = .good t r) : s = wrText t ++ r ∧ t.length ≤ top ∧ (t.length : Int) ≤ most ∧ 0 ≤ most := by
  obtain ⟨n, r1, e1, e2⟩ := Rd.bind_eq_good h
  obtain ⟨rfl, h2, h3, h4⟩ := many_back e1
  obtain ⟨rfl, h5⟩ := raw_back e2
  have : t.length = n := by omega
  subst this
  exact ⟨by rw [wrText, List.append_assoc], h2, h3, h4⟩
theorem textsN_there {most : Int} : ∀ (L l : List (List UInt8)) (b : List UInt8), (∀ t ∈ L, t.length ≤ top ∧ (t.length : Int) ≤ most) → rdTextsN most L.length l ((L.map wrText).flatten ++ b) = .good (l ++ L) b
  | [], l, b, _ => by simp [rdTextsN]
  | t :: L, l, b, h => by
    obtain ⟨h1, h2⟩ := h t (by simp)
    rw [List.length_cons, rdTextsN, List.map_cons, List.flatten_cons, List.append_assoc, text_there h1 h2, Rd.bind_good, textsN_there L _ b (fun u hu => h u (by simp [hu]))]
    simp
theorem textsN_back {most : Int} : ∀ (n : Nat) (l : List (List UInt8)) (s : List UInt8) v r, rdTextsN most n l s = .good v r → ∃ L, v = l ++ L ∧ L.length = n ∧ s = (L.map wrText).flatten ++ r ∧ ∀ t ∈ L, t.length ≤ top ∧ (t.length : Int) ≤ most
  | 0, l, s, v, r, h => by rw [rdTextsN] at h; injection h with e1 e2; subst e1 e2; exact ⟨[], by simp, rfl, by simp, by simp⟩
  | n + 1, l, s, v, r, h => by
    rw [rdTextsN] at h
    obtain ⟨t, r1, e1, e2⟩ := Rd.bind_eq_good h
    obtain ⟨rfl, g2, g3, _⟩ := text_back e1
    obtain ⟨L, rfl, h2, rfl, h4⟩ := textsN_back n _ _ _ _ e2
    refine ⟨t :: L, by simp, by simp [h2], by simp, fun u hu => ?_⟩
    rcases List.mem_cons.1 hu with rfl | hu
    · exact ⟨g2, g3⟩
    · exact h4 u hu
theorem texts_there {l : List (List UInt8)} {many most : Int} (hl : l.length ≤ top) (h1 : (l.length : Int) ≤ many) (h0 : 0 ≤ most) (h2 : ∀ t ∈ l, t.length ≤ top ∧ (t.length : Int) ≤ most) (b : List UInt8) : rdTexts (wrTexts l ++ b) many most = .good l b := by
  rw [rdTexts, if_neg (by omega), wrTexts, List.append_assoc, many_there hl h1, Rd.bind_good, textsN_there l [] b h2]; rfl
theorem texts_back {s : List UInt8} {many most : Int} {l : List (List UInt8)} {r : List UInt8} (h : rdTexts s many most = .good l r) : s = wrTexts l ++ r ∧ l.length ≤ top ∧ (l.length : Int) ≤ many ∧ 0 ≤ most ∧ 0 ≤ many ∧ ∀ t ∈ l, t.length ≤ top ∧ (t.length : Int) ≤ most := by
  rw [rdTexts] at h
  by_cases h0 : most < 0
  · rw [if_pos h0] at h; cases h
  rw [if_neg h0] at h
  obtain ⟨n, r1, e1, e2⟩ := Rd.bind_eq_good h
  obtain ⟨rfl, g2, g3, g4⟩ := many_back e1
  obtain ⟨L, h1, rfl, rfl, h4⟩ := textsN_back _ _ _ _ _ e2
  simp at h1; subst h1
  exact ⟨by rw [wrTexts, List.append_assoc], g2, g3, by omega, g4, h4⟩
theorem hashes_there {l : List (List UInt8)} {many : Int} (hl : l.length ≤ top) (h1 : (l.length : Int) ≤ many) (h2 : ∀ t ∈ l, t.length = 32) (b : List UInt8) : rdHashes (wrHashes l ++ b) many = .good l b := by
  rw [rdHashes, wrHashes, List.append_assoc, many_there hl h1, Rd.bind_good]
  exact hashB_of h2 b
theorem hashes_back {s : List UInt8} {many : Int} {l : List (List UInt8)} {r : List UInt8} (h : rdHashes s many = .good l r) : s = wrHashes l ++ r ∧ l.length ≤ top ∧ (l.length : Int) ≤ many ∧ 0 ≤ many ∧ ∀ t ∈ l, t.length = 32 := by
  obtain ⟨n, r1, e1, e2⟩ := Rd.bind_eq_good h
  obtain ⟨rfl, g2, g3, g4⟩ := many_back e1
  obtain ⟨rfl, rfl, h3⟩ := hashB_eq e2
  exact ⟨by rw [wrHashes, List.append_assoc], g2, g3, g4, h3⟩
theorem byte_back {s : List UInt8} {n : Nat} {r : List UInt8} (h : rdByte s = .good n r) : s = [UInt8.ofNat n] ++ r ∧ n ≤ 255 := by
  cases s with
  | nil => cases h
  | cons b s =>
    injection h with e1 e2
    subst e1 e2
    have := UInt8.toNat_lt b
    exact ⟨by simp, by omega⟩
end Cod
end Go.Proofs.YtmhgdcfmfcjagaaGreatDoor
