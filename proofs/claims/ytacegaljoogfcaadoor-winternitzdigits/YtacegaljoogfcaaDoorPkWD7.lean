import Derived.Test.YtacegaljoogfcaaDoorPkWDG
import Derived.Test.YtacegaljoogfcaaDoorPkWD6
/- Layer 20: WinternitzDigits, the lists as they are gathered -/
namespace Go.Proofs.YtacegaljoogfcaaDoor
open Go.RowKit
namespace Wz
def NoS : Nat → Prop := fun _ => False
/-- lists that come out, while they are gathered: roles 0 elder, 1 the list of them, 3 + j the j-th -/
structure Gt (w0 w : World) (vl : Value) (vs : List Value) (cs : Nat → List Value) (ρ : Nat → Nat) : Prop where
  kp : Keep NoS w0 w
  lo : ∀ k, k < w0.heap.size → ρ k = 0
  ol : OwnM 1 w vl vs.length vs
  rl : ∀ k, vl.ownBlock = some k → ρ k = 1
  own : ∀ (j : Nat) (v : Value), vs[j]? = some v → OwnM 1 w v (cs j).length (cs j) ∧ ∀ k, v.ownBlock = some k → ρ k = 3 + j
section
variable {w0 w w' : World} {vl vl' v : Value} {vs : List Value} {cs : Nat → List Value} {ρ : Nat → Nat}
theorem keep_no (h : Keep NoS w0 w) (hw : ∀ k, k < w0.heap.size → w'.heap[k]? = w.heap[k]?) (h1 : w'.os = w.os) (h2 : w'.tape = w.tape) (h3 : w'.output = w.output) (h4 : w.heap.size ≤ w'.heap.size) : Keep NoS w0 w' :=
  ⟨h1.trans h.os, h2.trans h.tape, h3.trans h.output, Nat.le_trans h.size h4, fun k hk hn => (hw k hk).trans (h.block k hk hn)⟩
theorem Gt.start (w0 : World) (cs : Nat → List Value) : Gt w0 w0 (.slice none 0 0) [] cs (fun _ => 0) :=
  ⟨⟨rfl, rfl, rfl, Nat.le_refl _, fun _ _ _ => rfl⟩, fun _ _ => rfl, OwnM.nil 1 _, fun k hk => (by cases hk), fun j v hj => (by simp at hj)⟩
/-- a call that makes one more list -/
theorem Gt.made (h : Gt w0 w vl vs cs ρ) (hb : Below w.heap.size w w') (_ho : OwnM 1 w' v (cs vs.length).length (cs vs.length)) : Gt w0 w' vl vs cs (rx ρ w (3 + vs.length)) where
  kp := keep_no h.kp (fun k hk => hb.block k (Nat.lt_of_lt_of_le hk h.kp.size)) hb.os hb.tape hb.output hb.size
  lo := fun k hk => by rw [rx_old (Nat.lt_of_lt_of_le hk h.kp.size)]; exact h.lo k hk
  ol := h.ol.below hb
  rl := fun k hk => by rw [rx_old (h.ol.lt k hk)]; exact h.rl k hk
  own := fun j u hj => by
    obtain ⟨a, b⟩ := h.own j u hj
    exact ⟨a.below hb, fun k hk => by rw [rx_old (a.lt k hk)]; exact b k hk⟩
/-- it is put to the others -/
theorem Gt.push (h : Gt w0 w vl vs cs ρ) (hg : Grow w w' vl vl') (ho : OwnM 1 w' vl' (vs.length + 1) (vs ++ [v])) (hv : OwnM 1 w v (cs vs.length).length (cs vs.length)) (hr : ∀ k, v.ownBlock = some k → ρ k = 3 + vs.length) :
    Gt w0 w' vl' (vs ++ [v]) cs (rx ρ w 1) := by
  have hw : Wr ρ 1 w w' := Wr.grow hg h.rl
  have hs := hw.size
  refine ⟨keep_no h.kp (fun k hk => hw.block k (Nat.lt_of_lt_of_le hk h.kp.size) (by rw [h.lo k hk]; omega)) hw.os hw.tape hw.output hs, fun k hk => by rw [rx_old (Nat.lt_of_lt_of_le hk h.kp.size)]; exact h.lo k hk, by rw [List.length_append]; exact ho, Wr.own hg h.rl h.ol.lt, fun j u hj => ?_⟩
  rw [List.getElem?_append] at hj
  split at hj
  · obtain ⟨a, b⟩ := h.own j u hj
    exact ⟨a.kept hs (fun g hg' => hw.block g (a.lt g hg') (by rw [b g hg']; omega)), fun k hk => by rw [rx_old (a.lt k hk)]; exact b k hk⟩
  · next hj' =>
    have ht := (List.getElem?_eq_some_iff.1 hj).1
    simp at ht
    obtain rfl : j = vs.length := by omega
    rw [Nat.sub_self] at hj
    obtain rfl : v = u := Option.some.inj hj
    exact ⟨hv.kept hs (fun g hg' => hw.block g (hv.lt g hg') (by rw [hr g hg']; omega)), fun k hk => by rw [rx_old (hv.lt k hk)]; exact hr k hk⟩
/-- all are there: they may be written over and grown -/
theorem Gt.ow {gl n cl : Nat} (mk : Nat → Value) (h : Gt w0 w (.slice (some ⟨gl, 0, none⟩) n cl) vs cs ρ) : Ow NoS w0 gl vs mk 0 cs (fun k => if ρ k = 1 then 0 else ρ k) w (.slice none 0 0) [] (.slice none 0 0) 0 where
  kp := h.kp
  lo := fun k hk _ => by simp only [h.lo k hk]; rfl
  gr := by
    rcases h.ol with ⟨h, _⟩ | ⟨g, cap, e, _, _, _, h4, _⟩
    · cases h
    · injection e with e1 _ _
      injection e1 with e1
      injection e1 with e1
      subst e1
      exact h4
  rg := by simp only [h.rl gl rfl]; rfl
  lg := h.ol.lt gl rfl
  own := fun j v _ hj => by
    obtain ⟨a, b⟩ := h.own j v hj
    exact ⟨a, fun k hk => by simp only [b k hk]; exact if_neg (by omega)⟩
  oa := OwnM.nil 1 w
  ra := fun k hk => by cases hk
  ow := OwnM.nil 1 w
  rw_ := fun k hk => by cases hk
  mrk := fun t v e => by simp at e
end
theorem append_iss (w : World) (v : Value) (ls : List Value) (a : Option Addr) (n c : Nat) (h : OwnM 1 w v ls.length ls) (hl : ls.length ≤ 1000000) :
    ∃ v' w', (Builtin.append_ #[28, 28] 28 #[v, .slice (some ⟨w.heap.size, 0, none⟩) 1 1]).run Tryd.prog (w.alloc (.cells #[.slice a n c] 23)) = .ok v' w' ∧ OwnM 1 w' v' (ls.length + 1) (ls ++ [.slice a n c]) ∧ Grow w w' v v' :=
  append_oneL 28 23 (.slice none 0 0) 24 Tryd.underlying28 (by kernel_rfl) rfl w v ls.length ls [.slice a n c] rfl (fun u hu => by
    simp only [List.mem_cons, List.not_mem_nil, or_false] at hu
    subst hu; rfl) h (by omega) (by rw [maxLen]; omega)
/-- a mark -/
def mkW (i : Nat) : Value := .int .i64 (-1 - (i : Int))
theorem append_mW (w : World) (v : Value) (n i : Nat) (h : OwnM 1 w v n (List.replicate n (mkW i))) (hl : n ≤ 3000000) :
    ∃ v' w', (Builtin.append_ #[23, 23] 23 #[v, .slice (some ⟨w.heap.size, 0, none⟩) 1 1]).run Tryd.prog (w.alloc (.cells #[mkW i] 3)) = .ok v' w' ∧ OwnM 1 w' v' (n + 1) (List.replicate (n + 1) (mkW i)) ∧ Grow w w' v v' := by
  rw [List.replicate_succ']
  exact append_oneL 23 3 _ 8 Tryd.underlying23 infoW rfl w v n (List.replicate n (mkW i)) [mkW i] rfl (fun u hu => by
    simp only [List.mem_cons, List.not_mem_nil, or_false] at hu
    subst hu; rfl) h (by omega) (by rw [maxLen]; omega)
theorem own_m {w : World} {b : Nat} {v : Value} {cs : List Value} (h : Own w b v cs) : OwnM 1 w v cs.length cs ∧ ∀ k, v.ownBlock = some k → b ≤ k := by
  rcases h with ⟨rfl, rfl⟩ | ⟨g, cap, rfl, h1, h2, h3, h4, h5, h6⟩
  · exact ⟨.inl ⟨rfl, rfl, rfl⟩, fun k hk => by cases hk⟩
  · exact ⟨.inr ⟨g, cap, rfl, h2, h3, by rw [Nat.mul_one], h4, by rw [Nat.mul_one]; exact h5, h6⟩, fun k hk => by cases hk; exact h1⟩
theorem lsn_of {w : World} {v : Value} {l : List Nat} (h : OwnM 1 w v (ivn l).length (ivn l)) (h0 : 0 < l.length) : ∃ g cap, v = .slice (some ⟨g, 0, none⟩) l.length cap ∧ LsN w g l := by
  rcases h with ⟨_, h, _⟩ | ⟨g, cap, rfl, h2, h3, _, h4, h5, h6⟩
  · rw [ivn_len] at h; omega
  · refine ⟨g, cap, by rw [ivn_len], ⟨h6, fun j n hj => ?_⟩⟩
    have := h4 j _ (ivn_at hj)
    rwa [Nat.zero_add] at this
/-- the texts that are asked -/
structure Ask (w : World) (ga : Nat) (Q : Nat → List UInt8) : Prop where
  lt : ga < w.heap.size
  at_ : ∀ I, I < 4 → ∃ q : ByteArray, w.cell? ⟨ga, I, none⟩ = some (.string q) ∧ q.size ≤ 140737488354000 ∧ Hid (Sha.sha (109 :: q.data.toList) = Q I)
theorem Ask.keep {w w' : World} {ga : Nat} {Q : Nat → List UInt8} (h : Ask w ga Q) (hk : Keep NoS w w') : Ask w' ga Q :=
  ⟨Nat.lt_of_lt_of_le h.lt hk.size, fun I hI => by
    obtain ⟨q, a, b⟩ := h.at_ I hI
    exact ⟨q, (World.cell?_of_block (a := ⟨ga, I, none⟩) (hk.block ga h.lt (fun e => e))).trans a, b⟩⟩
end Wz
end Go.Proofs.YtacegaljoogfcaaDoor
