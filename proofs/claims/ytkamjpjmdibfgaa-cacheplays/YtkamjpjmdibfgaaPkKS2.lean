import Derived.Test.YtkamjpjmdibfgaaPkKS1
/- Layer 15, the law: grows, reads -/
namespace Go.Proofs.Ytkamjpjmdibfgaa
open Go.RowKit Go.Maps
namespace Kc
/-- a list l0 as it is grown, and all its lengths -/
structure Gr (w0 : World) (l0 mv : Value) (nl : Nat) (w : World) (l va : Value) (all : List Value) : Prop where
  kp : Keep (fun k => l0.ownBlock = some k) w0 w
  ol : OwnM 1 w l nl (List.replicate nl mv)
  oa : OwnM 1 w va all.length all
  lb : ∀ k, l.ownBlock = some k → l0.ownBlock = some k ∨ w0.heap.size ≤ k
  ab : ∀ k, va.ownBlock = some k → w0.heap.size ≤ k
  ne : ∀ k, va.ownBlock = some k → l.ownBlock ≠ some k
  el : ∀ x ∈ all, MkV w x mv ∧ (∀ k, x.ownBlock = some k → (l0.ownBlock = some k ∨ w0.heap.size ≤ k) ∧ va.ownBlock ≠ some k ∧ k < w.heap.size) ∧ ∀ k a n c, x = .slice a n c → x.ownBlock = some k → l.ownBlock = some k → n ≤ nl
theorem Gr.growL {w0 w w' : World} {l0 mv l l' va : Value} {nl : Nat} {all : List Value} (h : Gr w0 l0 mv nl w l va all) (hg : Grow w w' l l') (ho : OwnM 1 w' l' (nl + 1) (List.replicate (nl + 1) mv)) : Gr w0 l0 mv (nl + 1) w' l' va all where
  kp := ⟨hg.os.trans h.kp.os, hg.tape.trans h.kp.tape, hg.output.trans h.kp.output, Nat.le_trans h.kp.size hg.size, fun k h1 h2 => (hg.old k (Nat.lt_of_lt_of_le h1 h.kp.size) fun e => by
    rcases h.lb k e with c | c
    · exact h2 c
    · omega).trans (h.kp.block k h1 h2)⟩
  ol := ho
  oa := h.oa.kept hg.size fun g hv => hg.old g (h.oa.lt g hv) (h.ne g hv)
  lb := fun k hk => by
    rcases hg.alt with e | ⟨e, _⟩
    · exact h.lb k (e ▸ hk)
    · have := e k hk; have := h.kp.size; exact .inr (by omega)
  ab := h.ab
  ne := fun k hk hl => by
    rcases hg.alt with e | ⟨e, _⟩
    · exact h.ne k hk (e ▸ hl)
    · have := e k hl; have := h.oa.lt k hk; omega
  el := fun x hx => by
    obtain ⟨m1, m2, m3⟩ := h.el x hx
    refine ⟨?_, fun k hk => ⟨(m2 k hk).1, (m2 k hk).2.1, Nat.lt_of_lt_of_le (m2 k hk).2.2 hg.size⟩, fun k a n c e hk hl => ?_⟩
    · obtain ⟨a, n, c, e1, hn, hc⟩ := m1
      refine ⟨a, n, c, e1, hn, fun j hj => ?_⟩
      obtain ⟨g, ea, h3, h4⟩ := hc j hj
      have hxg : x.ownBlock = some g := by rw [e1, ea]; rfl
      have keep : w'.heap[g]? = w.heap[g]? → ∃ g', a = some ⟨g', 0, none⟩ ∧ g' < w'.heap.size ∧ w'.cell? ⟨g', j, none⟩ = some mv := fun e' =>
        ⟨g, ea, Nat.lt_of_lt_of_le h3 hg.size, (World.cell?_of_block (a := ⟨g, j, none⟩) e').trans h4⟩
      by_cases hv : l.ownBlock = some g
      · rcases hg.alt with e4 | ⟨_, e4⟩
        · have hnl := m3 g a n c e1 hxg hv
          obtain ⟨g1, c1, f1, f2, f3⟩ := ho.cell (show (List.replicate (nl + 1) mv)[j]? = some mv by rw [List.getElem?_replicate, if_pos (by omega)])
          rw [hv] at e4
          have hg1 : g1 = g := by rw [f1] at e4; injection e4
          subst hg1
          exact ⟨_, ea, f3, f2⟩
        · exact keep (e4 g h3)
      · exact keep (hg.old g h3 hv)
    · rcases hg.alt with e4 | ⟨e4, _⟩
      · have := m3 k a n c e hk (e4 ▸ hl); omega
      · have := e4 k hl; have := (m2 k hk).2.2; omega
theorem Gr.growA {w0 w w' : World} {l0 mv l va va' : Value} {nl : Nat} {all : List Value} (h : Gr w0 l0 mv nl w l va all) (hg : Grow w w' va va') (ho : OwnM 1 w' va' (all ++ [l]).length (all ++ [l])) : Gr w0 l0 mv nl w' l va' (all ++ [l]) := by
  have ol : OwnM 1 w' l nl (List.replicate nl mv) := h.ol.kept hg.size fun g hv => hg.old g (h.ol.lt g hv) fun e => h.ne g e hv
  have nw : ∀ k, va'.ownBlock = some k → va.ownBlock = some k ∨ w.heap.size ≤ k := fun k hk => by
    rcases hg.alt with e | ⟨e, _⟩
    · exact .inl (e ▸ hk)
    · exact .inr (e k hk)
  have hs0 := h.kp.size
  refine ⟨⟨hg.os.trans h.kp.os, hg.tape.trans h.kp.tape, hg.output.trans h.kp.output, Nat.le_trans h.kp.size hg.size, fun k h1 h2 => (hg.old k (Nat.lt_of_lt_of_le h1 h.kp.size) fun e => by have := h.ab k e; omega).trans (h.kp.block k h1 h2)⟩, ol, ho, h.lb, fun k hk => ?_, fun k hk hl => ?_, fun x hx => ?_⟩
  · rcases nw k hk with c | c
    · exact h.ab k c
    · omega
  · rcases nw k hk with c | c
    · exact h.ne k c hl
    · have := h.ol.lt k hl; omega
  · rcases List.mem_append.1 hx with hx | hx
    · obtain ⟨m1, m2, m3⟩ := h.el x hx
      refine ⟨m1.kept hg.size fun k hk hl => hg.old k hl (m2 k hk).2.1, fun k hk => ⟨(m2 k hk).1, fun e => ?_, Nat.lt_of_lt_of_le (m2 k hk).2.2 hg.size⟩, m3⟩
      rcases nw k e with c | c
      · exact (m2 k hk).2.1 c
      · have := (m2 k hk).2.2; omega
    · obtain rfl := List.mem_singleton.1 hx
      refine ⟨ownM_mkV ol, fun k hk => ⟨h.lb k hk, fun e => ?_, Nat.lt_of_lt_of_le (h.ol.lt k hk) hg.size⟩, fun k a n c e _ _ => ?_⟩
      · rcases nw k e with c | c
        · exact h.ne k c hk
        · have := h.ol.lt k hk; omega
      · obtain ⟨a', c', e', _, _⟩ := h.ol.shape
        rw [e'] at e
        injection e with _ e _
        omega
theorem infoLS : (Try.prog.info? 59).map (fun i => (i.zero, i.size, i.bytes)) = some (some (.slice none 0 0), 1, 24) := by kernel_rfl
set_option maxRecDepth 100000 in
set_option maxHeartbeats 2000000 in
theorem reads_yes {w : World} {vl : Value} {all : List Value} {M : ByteArray} (h : OwnM 1 w vl all.length all) (hm : ∀ x ∈ all, MkV w x (.string M)) (hl : all.length ≤ 1000000) :
    Calls Try.prog 29 #[vl, .string M] w fun r w' => r = .returned (.bool true) ∧ w' = w := by
  obtain ⟨xa, ca, hv, _, _⟩ := h.shape
  subst hv
  have H := hid h
  obtain ⟨N, hN⟩ : ∃ N, all.length = N := ⟨_, rfl⟩
  rw [hN] at hl ⊢
  have HN := hid hN
  have HM := hid hm
  clear h hN hm
  have vv : (M.toList == M.toList) = true := by simp
  go_enter Try.func29, Try.ntmps29
  go_wp2
  go_loopw [5] (fun i w' => ∃ j : Nat, j ≤ N ∧ i = .int .i64 (j : Int) ∧ w' = w) (fun i _ => N - (intOf i).toNat)
  case atStart => exact ⟨0, Nat.zero_le _, rfl, rfl⟩
  case round =>
    obtain ⟨i, hi, rfl, rfl⟩ := hrel
    by_cases hiN : i < N
    · have hiA : i < all.length := by rw [HN.out]; exact hiN
      obtain ⟨x, hx⟩ : ∃ x, all[i] = x := ⟨_, rfl⟩
      obtain ⟨g, c1, e1, s1, _⟩ := H.out.cell (show all[i]? = some x by rw [List.getElem?_eq_getElem hiA, hx])
      obtain ⟨rfl, rfl⟩ : xa = some ⟨g, 0, none⟩ ∧ ca = c1 := by injection e1 with a b c; exact ⟨a, c⟩
      obtain ⟨ax, n, cx, rfl, hn, hc⟩ := HM.out x (by rw [← hx]; exact List.getElem_mem hiA)
      have HC := hid hc
      have y1 : (i : Int) < (N : Int) := by omega
      have y3 : (0 : Int) ≤ (i : Int) := by omega
      have hiN' := hid hiN
      clear e1 hc hx hiA
      go_wp2
      go_loopw [6] (fun q w' => ∃ j : Nat, j ≤ n ∧ q = .int .i64 (j : Int) ∧ w' = wr) (fun q _ => n - (intOf q).toNat)
      case atStart => exact ⟨0, Nat.zero_le _, rfl, rfl⟩
      case round =>
        obtain ⟨j, hj, rfl, rfl⟩ := hrel
        by_cases hjn : j < n
        · obtain ⟨gx, rfl, _, s2⟩ := HC.out j hjn
          have z1 : (j : Int) < (n : Int) := by omega
          have z3 : (0 : Int) ≤ (j : Int) := by omega
          have hjn' := hid hjn
          go_wp2
          exact ⟨⟨j + 1, hjn'.out, by go_num, trivial⟩, by have := hjn'.out; simp [RowKit.intOf]; omega⟩
        · obtain rfl : j = n := by omega
          have z1 : ¬ (j : Int) < (j : Int) := by omega
          go_wp2
          exact ⟨⟨i + 1, hiN'.out, by go_num, trivial⟩, by have := hiN'.out; simp [RowKit.intOf]; omega⟩
    · obtain rfl : i = N := by omega
      have y1 : ¬ (i : Int) < (i : Int) := by omega
      go_wp2
      go_ret
      exact ⟨rfl, rfl⟩
end Kc
end Go.Proofs.Ytkamjpjmdibfgaa
