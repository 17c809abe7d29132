import Derived.Test.YtonmhimoglgbgaaDoorBK7
import Derived.Test.YtonmhimoglgbgaaDoorZ5
import Derived.Test.YtonmhimoglgbgaaDoorV1
namespace Go.Proofs.YtonmhimoglgbgaaDoor
open Go.RowKit Cod
/-- how the book stands behind t steps -/
def BG (S : BS) (t : Nat) : Prop := ∃ i j, S.GI.length = 6 * i ∧ S.GT.length = 6 * j ∧ S.L2 = S.L3 ∧ S.L4 = S.L5 ∧ i + j + S.L2.length + S.L4.length ≤ t ∧ S.o2 = 0 ∧ S.o4 = 0 ∧ (∀ L ∈ S.L2, ∃ l : List Nat, L = nvs l) ∧ (∀ L ∈ S.L4, ∃ l : List (List UInt8), L = svs l)
theorem BG.mono {S : BS} {t t' : Nat} (h : BG S t) (ht : t ≤ t') : BG S t' := by
  obtain ⟨i, j, h1, h2, h3, h4, h5, h6⟩ := h
  exact ⟨i, j, h1, h2, h3, h4, by omega, h6⟩
/-- what a step leaves -/
def StepPost (X b1 b2 : Nat) (s : ByteArray) (t : Nat) (w : World) (r : Ending) (w' : World) : Prop :=
  r = .returned (.bool true) ∧ ∃ st' ρ' S', Rdr w' b1 st' ∧ XRd w' b2 s st' ∧ Bk w' X ρ' S' ∧ BG S' t ∧ Keep (fun k => k = b1 ∨ k = b2 ∨ X ≤ k) w w'
theorem rdr_heap {w w' : World} {b : Nat} {st : RS} (h : Rdr w b st) (e : w'.heap[b]? = w.heap[b]?) : Rdr w' b st := ⟨e.trans h.1, h.2⟩
theorem xrd_heap {w w' : World} {b : Nat} {s : ByteArray} {st : RS} (h : XRd w b s st) (e : w'.heap[b]? = w.heap[b]?) : XRd w' b s st := ⟨e.trans h.1, h.2⟩
theorem rise_len : ∀ (l : List Nat) (a : Nat), l.length ≤ (wrRise a l).length
  | [], _ => by simp
  | x :: l, a => by
    have := rise_len l (x + 1)
    have := digs_pos (x - a)
    rw [wrRise, List.length_append, List.length_cons]
    omega
theorem texts_len : ∀ (l : List (List UInt8)), l.length ≤ (l.map wrText).flatten.length
  | [] => by simp
  | x :: l => by
    have := texts_len l
    have := digs_pos x.length
    rw [List.map_cons, List.flatten_cons, List.length_append, List.length_cons, wrText, List.length_append]
    omega
theorem valRise_len (st : RS) (n : Int) : (st.val [] (rdRising st.rest n)).length ≤ st.rest.length := by
  unfold RS.val
  split
  · cases hR : rdRising st.rest n with
    | bad e => simp
    | good l r =>
      have e := (rising_back hR).1
      have h1 := congrArg List.length e
      have h2 := rise_len l 0
      rw [List.length_append, wrRising, List.length_append] at h1
      show l.length ≤ _
      omega
  · simp
theorem valTexts_len (st : RS) (n m : Int) : (st.val [] (rdTexts st.rest n m)).length ≤ st.rest.length := by
  unfold RS.val
  split
  · cases hR : rdTexts st.rest n m with
    | bad e => simp
    | good l r =>
      have e := (texts_back hR).1
      have h1 := congrArg List.length e
      have h2 := texts_len l
      rw [List.length_append, wrTexts, List.length_append] at h1
      show l.length ≤ _
      omega
  · simp
theorem valHashes_len (st : RS) (n : Int) : (st.val [] (rdHashes st.rest n)).length ≤ st.rest.length := by
  unfold RS.val
  split
  · cases hR : rdHashes st.rest n with
    | bad e => simp
    | good l r =>
      obtain ⟨e, _, _, _, h32⟩ := hashes_back hR
      have h1 := congrArg List.length e
      have h2 := flatten32 l h32
      rw [List.length_append, wrHashes, List.length_append] at h1
      show l.length ≤ _
      omega
  · simp
theorem nvs_one {l : List Nat} : ∀ u ∈ nvs l, u.oneCell' = true := fun u hu => by
  obtain ⟨x, _, rfl⟩ := List.mem_map.1 hu
  rfl
theorem svs_oneS {l : List (List UInt8)} : ∀ u ∈ svs l, u.oneCell' = true := fun u hu => by
  obtain ⟨x, _, rfl⟩ := List.mem_map.1 hu
  rfl
theorem putI_all (X b2 t : Nat) (ρ : Rol) (S : BS) (x : Value) (l : List Nat) (kp : Bool) (w : World) (h : Bk w X ρ S) (hG : BG S t) (ht : t ≤ 200) (hx : Own w b2 x (nvs l)) (hb2 : X ≤ b2) (hL : l.length ≤ 1100000) (h1 : ∀ u ∈ nvs l, u.oneCell' = true) (hfr : ∀ g, x.ownBlock = some g → ρ g = none) :
    Calls Tryd.prog 42 #[.pointer (some ⟨X, 0, none⟩), x, .bool kp] w fun r w' => r = .returned (.tuple #[]) ∧ ∃ ρ' S', Bk w' X ρ' S' ∧ BG S' (t + 1) ∧ Keep (KS ρ x) w w' := by
  obtain ⟨i, j, g1, g2, g3, g4, g5, g6, g7, g8, g9⟩ := hG
  have l2 := h.f2.len
  have l3 := h.f3.len
  have l4 := h.f4.len
  have l5 := h.f5.len
  have m3 := congrArg List.length g3
  have m5 := congrArg List.length g4
  cases kp
  · refine (putI_take X b2 i ρ S x (nvs l) w h hx hb2 (by rw [nvs_length]; exact hL) hfr g1 (by omega)).mono ?_
    rintro r w' ⟨rfl, ρ', v', G', hB, hl, hK⟩
    exact ⟨rfl, ρ', _, hB, ⟨i + 1, j, hl, g2, g3, g4, by show _ + _ + S.L2.length + S.L4.length ≤ _; omega, g6, g7, g8, g9⟩, hK⟩
  · refine (putI_free X b2 ρ S x (nvs l) w h hx hb2 (by rw [nvs_length]; exact hL) h1 hfr g6 (by omega) (by omega)).mono ?_
    rintro r w' ⟨rfl, ρ', v', u', v'', u'', hB, hK⟩
    refine ⟨rfl, ρ', _, hB, ⟨i, j, g1, g2, ?_, ?_, ?_, g6, g7, ?_, ?_⟩, hK⟩
    · show S.L2 ++ _ = S.L3 ++ _
      rw [g3]
    · show S.L4 = S.L5
      rw [g4]
    · show i + j + (S.L2 ++ [nvs l]).length + S.L4.length ≤ t + 1
      rw [List.length_append]
      simp
      omega
    · intro L hL'
      rcases List.mem_append.1 (show L ∈ S.L2 ++ [nvs l] from hL') with e | e
      · exact g8 L e
      · exact ⟨l, List.mem_singleton.1 e⟩
    · exact g9
theorem putT_all (X b2 t : Nat) (ρ : Rol) (S : BS) (x : Value) (l : List (List UInt8)) (kp : Bool) (w : World) (h : Bk w X ρ S) (hG : BG S t) (ht : t ≤ 200) (hx : Own w b2 x (svs l)) (hb2 : X ≤ b2) (hL : l.length ≤ 1100000) (h1 : ∀ u ∈ svs l, u.oneCell' = true) (hfr : ∀ g, x.ownBlock = some g → ρ g = none) :
    Calls Tryd.prog 45 #[.pointer (some ⟨X, 0, none⟩), x, .bool kp] w fun r w' => r = .returned (.tuple #[]) ∧ ∃ ρ' S', Bk w' X ρ' S' ∧ BG S' (t + 1) ∧ Keep (KS ρ x) w w' := by
  obtain ⟨i, j, g1, g2, g3, g4, g5, g6, g7, g8, g9⟩ := hG
  have l2 := h.f2.len
  have l3 := h.f3.len
  have l4 := h.f4.len
  have l5 := h.f5.len
  have m3 := congrArg List.length g3
  have m5 := congrArg List.length g4
  cases kp
  · refine (putT_take X b2 j ρ S x (svs l) w h hx hb2 (by rw [svs_length]; exact hL) hfr g2 (by omega)).mono ?_
    rintro r w' ⟨rfl, ρ', v', G', hB, hl, hK⟩
    exact ⟨rfl, ρ', _, hB, ⟨i, j + 1, g1, hl, g3, g4, by show _ + _ + S.L2.length + S.L4.length ≤ _; omega, g6, g7, g8, g9⟩, hK⟩
  · refine (putT_free X b2 ρ S x (svs l) w h hx hb2 (by rw [svs_length]; exact hL) h1 hfr g7 (by omega) (by omega)).mono ?_
    rintro r w' ⟨rfl, ρ', v', u', v'', u'', hB, hK⟩
    refine ⟨rfl, ρ', _, hB, ⟨i, j, g1, g2, ?_, ?_, ?_, g6, g7, ?_, ?_⟩, hK⟩
    · show S.L2 = S.L3
      rw [g3]
    · show S.L4 ++ _ = S.L5 ++ _
      rw [g4]
    · show i + j + S.L2.length + (S.L4 ++ [svs l]).length ≤ t + 1
      rw [List.length_append]
      simp
      omega
    · exact g8
    · intro L hL'
      rcases List.mem_append.1 (show L ∈ S.L4 ++ [svs l] from hL') with e | e
      · exact g9 L e
      · exact ⟨l, List.mem_singleton.1 e⟩
end Go.Proofs.YtonmhimoglgbgaaDoor
