import Derived.Test.YtkiibcfjjplkaaaDoorCSI6
import Derived.Test.YtkiibcfjjplkaaaDoorCSJ2
namespace Go.Proofs.YtkiibcfjjplkaaaDoor
open Go.RowKit Go.Shelf
/-- a list of one's own, new, and a number, come out -/
def OwP (w : World) (o : List (List UInt8) × Int) (r : Ending) (w' : World) : Prop := ∃ v, r = .returned (.tuple #[v, .int .i64 o.2]) ∧ OwnM 1 w' v o.1.length (svs o.1) ∧ (∀ k, v.ownBlock = some k → w.heap.size ≤ k) ∧ Below w.heap.size w w'
theorem OwP.none (w : World) (c : Int) : OwP w ([], c) (.returned (.tuple #[.slice none 0 0, .int .i64 c])) w := ⟨_, rfl, OwnM.nil 1 w, (fun k hk => by cases hk), Below.refl _ _⟩
theorem Row.ownM {w : World} {g : Nat} {l : List (List UInt8)} (h : Row w g l) (hl : l.length ≤ 2000000) : OwnM 1 w (.slice (some ⟨g, 0, none⟩) l.length l.length) l.length (svs l) := by
  refine .inr ⟨g, l.length, rfl, Nat.le_refl _, by rw [maxLen]; omega, by rw [svs_length, Nat.mul_one], ?_, ?_, h.lt⟩
  · intro j u hu
    rw [Nat.zero_add, cell_of_row _ _ _ _ _ _ h]
    simpa using hu
  · rw [Nat.mul_one]
    exact there_of_row h 0 l.length (by simp [svs])
theorem RwP.owP {w w' : World} {r : Ending} {l : List (List UInt8)} (h : RwP w l r w') (hl : l.length ≤ 2000000) : OwP w (l, 0) r w' := by
  obtain ⟨g, rfl, h1, h2, h3⟩ := h
  exact ⟨_, rfl, h1.ownM hl, fun k hk => by obtain rfl : g = k := Option.some.inj hk; exact h2, h3⟩
set_option maxRecDepth 100000 in
set_option maxHeartbeats 400000 in
theorem inc11_any {w : World} {q h : Nat} {L : List (List UInt8)} {F : Nat → Prop} (t : TrL w q h L F) (Z : Tb w) (n i : Int) :
    Calls Tryd.prog 10 #[.pointer (some ⟨q, 0, none⟩), .int .i64 n, .int .i64 i] w (OwP w (incL L n i, incE L n i)) := by
  have n20 := t.n20
  by_cases h1 : 0 ≤ n ∧ n ≤ (L.length : Int)
  · by_cases h2 : 0 ≤ i ∧ i < n
    · obtain ⟨N, rfl⟩ : ∃ N : Nat, n = (N : Int) := ⟨n.toNat, by omega⟩
      obtain ⟨I, rfl⟩ : ∃ I : Nat, i = (I : Int) := ⟨i.toNat, by omega⟩
      have eE : incE L (N : Int) (I : Int) = 0 := by unfold incE; rw [if_pos h1, if_pos h2]
      have eL : incL L (N : Int) (I : Int) = Tree.path I (L.take N) := by unfold incL; rw [if_pos eE, Int.toNat_natCast, Int.toNat_natCast]
      rw [eE, eL]
      refine (inc11_ok t Z N I (by omega) (by omega)).mono fun r w' hr => hr.owP ?_
      have := pthF_short N 0 N I
      rw [← hsh_path L (show I < N by omega) (show N ≤ L.length by omega), hsh_len]
      omega
    · have eE : incE L n i = 110 := by unfold incE; rw [if_pos h1, if_neg h2]
      have eL : incL L n i = [] := by unfold incL; rw [if_neg (by rw [eE]; decide)]
      rw [eE, eL]
      have fin := OwP.none w 110
      have i1 := had_any t n true (by rw [decide_eq_true h1])
      clear t Z eE eL n20
      by_cases h3 : i < 0
      · go_enter Tryd.func10, Tryd.ntmps10
        go_wp2_with (go_at_call 32; refine i1.mono ?_; rintro r w1 ⟨rfl, h0⟩; have h0 := h0.symm; subst h0)
        go_ret2
        exact fin
      · have h4 : n ≤ i := by omega
        go_enter Tryd.func10, Tryd.ntmps10
        go_wp2_with (go_at_call 32; refine i1.mono ?_; rintro r w1 ⟨rfl, h0⟩; have h0 := h0.symm; subst h0)
        go_ret2
        exact fin
  · have eE : incE L n i = 111 := by unfold incE; rw [if_neg h1]
    have eL : incL L n i = [] := by unfold incL; rw [if_neg (by rw [eE]; decide)]
    rw [eE, eL]
    have fin := OwP.none w 111
    have i1 := had_any t n false (by rw [decide_eq_false h1])
    clear t Z eE eL n20
    go_enter Tryd.func10, Tryd.ntmps10
    go_wp2_with (go_at_call 32; refine i1.mono ?_; rintro r w1 ⟨rfl, h0⟩; have h0 := h0.symm; subst h0)
    go_ret2
    exact fin
set_option maxRecDepth 100000 in
set_option maxHeartbeats 400000 in
theorem con11_any {w : World} {q h : Nat} {L : List (List UInt8)} {F : Nat → Prop} (t : TrL w q h L F) (Z : Tb w) (m n : Int) :
    Calls Tryd.prog 12 #[.pointer (some ⟨q, 0, none⟩), .int .i64 m, .int .i64 n] w (OwP w (conL L m n, conE L m n)) := by
  have n20 := t.n20
  by_cases h1 : 0 ≤ n ∧ n ≤ (L.length : Int)
  · have i1 := had_any t n true (by rw [decide_eq_true h1])
    by_cases h2 : 1 ≤ m ∧ m ≤ n
    · obtain ⟨N, rfl⟩ : ∃ N : Nat, n = (N : Int) := ⟨n.toNat, by omega⟩
      obtain ⟨M, rfl⟩ : ∃ M : Nat, m = (M : Int) := ⟨m.toNat, by omega⟩
      have eE : conE L (M : Int) (N : Int) = 0 := by unfold conE; rw [if_pos ⟨h1.1, h1.2, h2.1, h2.2⟩]
      have eL : conL L (M : Int) (N : Int) = Tree.proof M (L.take N) true := by unfold conL; rw [if_pos eE, Int.toNat_natCast, Int.toNat_natCast]
      rw [eE, eL]
      refine (con11_ok t Z M N (by omega) (by omega) (by omega)).mono fun r w' hr => hr.owP ?_
      have := prfF_short N 0 N M
      rw [← hsh_proof L (show 1 ≤ M by omega) (show M ≤ N by omega) (show N ≤ L.length by omega), hsh_len]
      omega
    · have eE : conE L m n = 111 := by unfold conE; rw [if_neg (fun h => h2 ⟨h.2.2.1, h.2.2.2⟩)]
      have eL : conL L m n = [] := by unfold conL; rw [if_neg (by rw [eE]; decide)]
      rw [eE, eL]
      have fin := OwP.none w 111
      clear t Z eE eL n20
      by_cases h3 : m < 1
      · go_enter Tryd.func12, Tryd.ntmps12
        go_wp2_with (go_at_call 32; refine i1.mono ?_; rintro r w1 ⟨rfl, h0⟩; have h0 := h0.symm; subst h0)
        go_ret2
        exact fin
      · have h4 : n < m := by omega
        go_enter Tryd.func12, Tryd.ntmps12
        go_wp2_with (go_at_call 32; refine i1.mono ?_; rintro r w1 ⟨rfl, h0⟩; have h0 := h0.symm; subst h0)
        go_ret2
        exact fin
  · have eE : conE L m n = 111 := by unfold conE; rw [if_neg (fun h => h1 ⟨h.1, h.2.1⟩)]
    have eL : conL L m n = [] := by unfold conL; rw [if_neg (by rw [eE]; decide)]
    rw [eE, eL]
    have fin := OwP.none w 111
    have i1 := had_any t n false (by rw [decide_eq_false h1])
    clear t Z eE eL n20
    go_enter Tryd.func12, Tryd.ntmps12
    go_wp2_with (go_at_call 32; refine i1.mono ?_; rintro r w1 ⟨rfl, h0⟩; have h0 := h0.symm; subst h0)
    go_ret2
    exact fin
theorem append_twoL {m : Nat} (t e : TypeId) (z : Value) (by_ : Nat) (hu : Tryd.prog.underlying t = some (.slice e)) (hinfo : (Tryd.prog.info? e).map (fun i => (i.zero, i.size, i.bytes)) = some (some z, m, by_)) (hzs : z.cells.size = m)
    (w : World) (v : Value) (n0 : Nat) (cs : List Value) (xs : List Value) (hm : xs.length = 2 * m) (h1 : ∀ u ∈ xs, u.oneCell' = true) (hown : OwnM m w v n0 cs) (hb : (n0 + 2) * by_ ≤ 140737488355328) (hlen : n0 + 2 ≤ maxLen) :
    ∃ v' w', (Builtin.append_ #[t, t] t #[v, .slice (some ⟨w.heap.size, 0, none⟩) 2 2]).run Tryd.prog (w.alloc (.cells xs.toArray e)) = .ok v' w' ∧ OwnM m w' v' (n0 + 2) (cs ++ xs) ∧ Grow w w' v v' := by
  obtain ⟨i0, hi, hz0, hz1, hz2⟩ := info_parts hinfo
  have hsrc : Src Tryd.prog m t (.slice (some ⟨w.heap.size, 0, none⟩) 2 2) 2 xs (w.alloc (.cells xs.toArray e)) :=
    Src.ofSlice _ hu ⟨w.heap.size, 0, none⟩ 2 2 xs hm (fun j u hj => by
      rw [Addr.add_mid, cell_of_row _ _ _ _ _ _ (heap_alloc_new w _), Nat.zero_add]; simpa using hj) h1
  obtain ⟨v', w', a1, a2, a3⟩ := run_append_M (P := Tryd.prog) (w.alloc (.cells xs.toArray e)) t t t e i0 z hu hi hz0 hz1 hzs v n0 cs (hown.alloc _) _ 2 xs hsrc
    (by rw [hz2]; exact hb) hlen (fun _ => by omega)
  have hs := a3.size
  rw [size_alloc] at hs
  refine ⟨v', w', a1, a2, ⟨a3.os, a3.tape, a3.output, by omega, fun k hk hne => (a3.old k (by rw [size_alloc]; omega) hne).trans (Below.heap_alloc w _ k hk), ?_⟩⟩
  rcases a3.alt with h4 | ⟨h4, h5⟩
  · exact .inl h4
  · exact .inr ⟨fun k hk => by have := h4 k hk; rw [size_alloc] at this; omega, fun k hk => (h5 k (by rw [size_alloc]; omega)).trans (Below.heap_alloc w _ k hk)⟩
theorem append_tx2 (w : World) (v : Value) (ls : List Value) (a : Option Addr) (n c : Nat) (b : Option Addr) (n' c' : Nat) (h : OwnM 1 w v ls.length ls) (hl : ls.length ≤ 1000000) :
    ∃ v' w', (Builtin.append_ #[51, 51] 51 #[v, .slice (some ⟨w.heap.size, 0, none⟩) 2 2]).run Tryd.prog (w.alloc (.cells #[.slice a n c, .slice b n' c'] 28)) = .ok v' w' ∧ OwnM 1 w' v' (ls.length + 2) (ls ++ [.slice a n c, .slice b n' c']) ∧ Grow w w' v v' :=
  append_twoL 51 28 _ 24 Tryd.underlying51 infoTx rfl w v ls.length ls [.slice a n c, .slice b n' c'] rfl (fun u hu => by
    simp only [List.mem_cons, List.not_mem_nil, or_false] at hu
    rcases hu with rfl | rfl <;> rfl) h (by omega) (by rw [maxLen]; omega)
theorem Own.ownM1 {w : World} {base : Nat} {v : Value} {cs : List Value} (h : Own w base v cs) : OwnM 1 w v cs.length cs ∧ ∀ k, v.ownBlock = some k → base ≤ k := by
  rcases h with ⟨rfl, h⟩ | ⟨g, cap, rfl, h1, h2, h3, h4, h5, h6⟩
  · subst h; exact ⟨OwnM.nil 1 w, fun k hk => by cases hk⟩
  · exact ⟨.inr ⟨g, cap, rfl, h2, h3, by rw [Nat.mul_one], h4, by rw [Nat.mul_one]; exact h5, h6⟩, fun k hk => by obtain rfl : g = k := Option.some.inj hk; exact h1⟩
end Go.Proofs.YtkiibcfjjplkaaaDoor
