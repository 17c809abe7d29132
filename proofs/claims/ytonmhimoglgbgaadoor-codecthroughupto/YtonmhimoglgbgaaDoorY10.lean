import Derived.Test.YtonmhimoglgbgaaDoorY9
namespace Go.Proofs.YtonmhimoglgbgaaDoor
open Go.RowKit Cod

theorem rise_len_any : ∀ (L : List Nat) (a : Nat), (∀ n ∈ L, n ≤ 9223372036854775807) → (wrRise a L).length ≤ 10 * L.length
  | [], _, _ => by simp [wrRise]
  | n :: L, a, h => by
    have h1 := h n (by simp)
    have := rise_len_any L (n + 1) (fun u hu => h u (by simp [hu]))
    have e : 128 ^ (9 + 1) = 1180591620717411303424 := by decide
    have := digs_len 9 (n - a) (by rw [e]; omega)
    rw [wrRise, List.length_append, List.length_cons]
    omega
theorem rising_len_any (l : List Int) (hb : ∀ c ∈ l, -9223372036854775808 ≤ c ∧ c ≤ 9223372036854775807) (hl : l.length ≤ 100000000) : (wrRising (l.map Int.toNat)).length ≤ 10 + 10 * l.length := by
  have h1 := rise_len_any (l.map Int.toNat) 0 (fun n hn => by
    obtain ⟨c, hc, rfl⟩ := List.mem_map.1 hn
    have := hb c hc
    omega)
  rw [List.length_map] at h1
  have := digs_len9 (n := l.length) (by omega)
  rw [wrRising, List.length_append, List.length_map]
  omega
theorem SlcV.keepN {K : Nat → Prop} {w w' : World} {v : Value} {cs : List Value} (h : SlcV w v cs) (hb : Keep K w w') (ha : ∀ x n c, v = .slice (some x) n c → cs ≠ [] → ¬ K x.block) : SlcV w' v cs := by
  obtain ⟨a, cap, rfl, h⟩ := h
  refine ⟨a, cap, rfl, fun j p hp => ?_⟩
  obtain ⟨x, rfl, hx, hc⟩ := h j p hp
  refine ⟨x, rfl, Nat.lt_of_lt_of_le hx hb.size, ?_⟩
  rw [World.cell?_of_block (w := w) (by rw [add_block]; exact hb.block x.block hx (ha x _ _ rfl (fun e => by rw [e] at hp; simp at hp)))]; exact hc
theorem ivs_one {l : List Int} : ∀ u ∈ ivs l, u.oneCell' = true := fun u hu => by
  obtain ⟨n, _, rfl⟩ := List.mem_map.1 hu; rfl
theorem svs_one {l : List (List UInt8)} : ∀ u ∈ svs l, u.oneCell' = true := fun u hu => by
  obtain ⟨n, _, rfl⟩ := List.mem_map.1 hu; rfl
theorem ivs_len (l : List Int) : (ivs l).length = l.length := by simp [ivs]
theorem slcI_nil (w : World) (n c : Nat) (h : n = 0) : SlcI w (.slice none n c) [] := ⟨none, c, by rw [h]; rfl, fun j c hc => by simp at hc⟩
theorem slcT_nil (w : World) (n c : Nat) (h : n = 0) : Slc w (.slice none n c) [] := ⟨none, c, by rw [h]; rfl, fun j c hc => by simp at hc⟩
theorem apart_nil (n c : Nat) (K : Nat → Prop) : Apart (.slice none n c) K := fun _ _ _ h => by cases h
theorem Lent.apart {w : World} {B g cap n : Nat} {cs : List Value} (_ : Lent w B g cap cs) {K : Nat → Prop} (hK : ¬ K g) : Apart (.slice (some ⟨g, 0, none⟩) n cap) K := fun x _ _ h => by cases h; exact hK
/-- three times each number -/
def tr (k : Nat) : List Nat := (List.range k).map (3 * ·)
theorem tr_len (k : Nat) : (tr k).length = k := by simp [tr]
theorem tr_succ (k : Nat) : tr (k + 1) = tr k ++ [3 * k] := by simp [tr, List.range_succ]
theorem nvs_ivs (L : List Nat) : nvs L = ivs (ints L) := by simp [nvs, ivs, ints]
theorem mix_set (A : List Value) (R : List Value) (k : Nat) (u : Value) (hA : A.length = k) (hk : k < R.length) : (A ++ R.drop k).set k u = (A ++ [u]) ++ R.drop (k + 1) := by
  rw [List.set_append_right _ _ (by omega), hA, Nat.sub_self, List.drop_eq_getElem_cons hk, List.set_cons_zero, List.append_assoc]
  rfl
theorem mix_get (A : List Value) (R : List Value) (k : Nat) (hA : A.length = k) (hk : k < R.length) : (A ++ R.drop k)[k]? = some R[k] := by
  rw [List.getElem?_append_right (by omega), hA, Nat.sub_self, List.drop_eq_getElem_cons hk]
  rfl
theorem mix_len (A : List Value) (R : List Value) (k : Nat) (hA : A.length = k) (hk : k ≤ R.length) : (A ++ R.drop k).length = R.length := by
  rw [List.length_append, List.length_drop]; omega

end Go.Proofs.YtonmhimoglgbgaaDoor
