import Derived.Test.YtdmaiodckialmaaDoorCSH6
import Derived.Test.YtdmaiodckialmaaDoorCSP10
namespace Go.Proofs.YtdmaiodckialmaaDoor
open Go.RowKit Go.Shelf
def slLen : Value → Nat
  | .slice _ n _ => n
  | _ => 0
theorem OwnM.slLen {m : Nat} {w : World} {v : Value} {n : Nat} {cs : List Value} (h : OwnM m w v n cs) : slLen v = n := by
  obtain ⟨a, c, e, _, _⟩ := h.shape
  rw [e]; rfl
/-- the way down: the span in a block of its own, the list of what lies beside -/
structure Dn (w w' : World) (v : Value) (b e : Nat) (l : List (Nat × Nat)) : Prop where
  sp : SpI w' w.heap.size b e
  ow : OwnP w' v l
  nw : ∀ k, v.ownBlock = some k → w.heap.size < k
  bel : Below w.heap.size w w'
theorem Dn.below {w w' w'' : World} {v : Value} {b e : Nat} {l : List (Nat × Nat)} (h : Dn w w' v b e l) (hb : Below w'.heap.size w' w'') : Dn w w'' v b e l :=
  ⟨h.sp.below hb, h.ow.below hb, h.nw, h.bel.trans (hb.mono h.bel.size)⟩
theorem Dn.grow {w w' w'' : World} {v v' : Value} {b e : Nat} {l l' : List (Nat × Nat)} (h : Dn w w' v b e l) (hg : Grow w' w'' v v') (ho : OwnP w'' v' l') : Dn w w'' v' b e l' :=
  ⟨(hg.old _ (lt_of_heap h.sp) (fun e => by have := h.nw _ e; omega)).trans h.sp, ho, fun k hk => by
    rcases hg.alt with e1 | ⟨e1, _⟩
    · exact h.nw k (e1 ▸ hk)
    · have := e1 k hk; have := lt_of_heap h.sp; omega,
   h.bel.trans ⟨hg.os, hg.tape, hg.output, hg.size, fun k hk => hg.old k (Nat.lt_of_lt_of_le hk h.bel.size) (fun e => by have := h.nw k e; omega)⟩⟩
theorem Dn.set {w w' : World} {v : Value} {b e : Nat} {l : List (Nat × Nat)} (h : Dn w w' v b e l) (b' e' : Nat) : Dn w ((w'.setCell ⟨w.heap.size, 0, none⟩ (.int .i64 (b' : Int))).setCell ⟨w.heap.size, 1, none⟩ (.int .i64 (e' : Int))) v b' e' l :=
  ⟨h.sp.two _ _, h.ow.kept (by simp [World.setCell]) (fun g hg => by
    have hne : g ≠ w.heap.size := by have := h.nw g hg; omega
    rw [heap_setCell_other _ ⟨w.heap.size, 1, none⟩ g _ hne, heap_setCell_other _ ⟨w.heap.size, 0, none⟩ g _ hne]), h.nw,
   (h.bel.setCell (p := ⟨w.heap.size, 0, none⟩) (Nat.le_refl _) _).setCell (p := ⟨w.heap.size, 1, none⟩) (Nat.le_refl _) _⟩
theorem SpP.nil {w : World} {c : Int} : SpP w c [] (.returned (.tuple #[.slice none 0 0, .int .i64 c])) w := ⟨Below.refl _ _, _, rfl, OwnM.nil 2 _, fun k hk => by cases hk⟩
end Go.Proofs.YtdmaiodckialmaaDoor

namespace Go.Proofs.YtdmaiodckialmaaDoor
open Go.RowKit Go.Shelf
theorem pk_nat (c : Int) (n : Nat) (hn : 1 ≤ n) : ∃ k : Nat, Hid (pk c (n : Int) = (k : Int)) ∧ k < n := by
  have q0 := pk_nonneg c (n : Int) (by omega)
  have q1 := pk_lt c (n : Int) (by omega)
  exact ⟨(pk c (n : Int)).toNat, by unfold Hid; omega, by omega⟩
theorem Apt_len : ∀ {L : List (Nat × Nat)} {b e : Nat} {p : Nat → Bool}, Tree.Apt b e L p → L.length + b ≤ e
  | [], b, e, p, h => by have := h.1; simpa using this
  | s :: L, b, e, p, h => by
    obtain ⟨a1, a2, a3, a4, a5, a6⟩ := h
    have := Apt_len a6
    rw [List.length_cons]
    omega
end Go.Proofs.YtdmaiodckialmaaDoor

namespace Go.Proofs.YtdmaiodckialmaaDoor
open Go.RowKit Go.Shelf
/-- rising's answer, with its capacity -/
def RisQ (n : Nat) (w : World) (r : Ending) (w' : World) : Prop := ∃ (a : Option Addr) (cap : Nat) (L : List Int), r = .returned (.slice a L.length cap) ∧ AtI w' a L ∧ BatOk n L ∧ Below w.heap.size w w' ∧ L.length ≤ cap ∧ cap ≤ 9223372036854775807
set_option maxRecDepth 100000 in
set_option maxHeartbeats 4000000 in
theorem rising20_any (n : Nat) (cs : List Int) (a : Option Addr) (cap : Nat) (hn : 1 ≤ n) (hn2 : n ≤ 1099511627776) (hcs : cs.length ≤ 9223372036854775807) (hw : ∀ x ∈ cs, -9223372036854775808 ≤ x ∧ x ≤ 9223372036854775807) (w : World) (hA : AtI w a cs) :
    Calls Tryd.prog 7 #[.slice a cs.length cap, .int .i64 (n : Int), .int .i64 20] w (RisQ n w) := by
  have HA := hid hA
  have HW := hid hw
  clear hA hw
  generalize hN : cs.length = N at *
  go_enter Tryd.func7, Tryd.ntmps7
  go_wp2
  go_loopw [7, 8, 9] (fun v t i w' => ∃ (L : List Int) (A k : Nat), Hid (L.length = k) ∧ t = .int .i64 (A : Int) ∧ i = .int .i64 (k : Int) ∧ A ≤ n ∧ k ≤ N ∧ k ≤ 20 ∧ Hid (Rsn L A) ∧ Hid (Own w' w.heap.size v (iv8 L)) ∧ Hid (Below w.heap.size w w')) (fun _ _ i _ => 20 - (intOf i).toNat)
  case atStart => exact ⟨[], 0, 0, rfl, rfl, rfl, by omega, by omega, by omega, Rsn.nil _, Own.nil _ _, Below.refl _ _⟩
  case round =>
    obtain ⟨L, A, k, hk, rfl, rfl, hAn, hkN, hk2, hR, hO, hB⟩ := hrel
    obtain ⟨oa, oc, hv, hat, hcp⟩ := hO.out.atI8
    have hcp := hid hcp
    rw [hk.out] at hv
    subst hv
    have hat := hid hat
    by_cases hgo : (k : Int) < (N : Int) ∧ (k : Int) < 20 ∧ (A : Int) < (n : Int)
    · obtain ⟨g1, g2, g3⟩ := hgo
      obtain ⟨x, rfl⟩ := HA.out.pos (by omega)
      have hcell := (HA.out.below hB.out (Nat.le_refl _)).cell k (by omega)
      have hcw := HW.out (cs[k]'(by omega)) (List.getElem_mem _)
      generalize cs[k]'(by omega) = c at *
      obtain ⟨R, hRn⟩ : ∃ R : Nat, (n : Int) - (A : Int) = (R : Int) := ⟨n - A, by omega⟩
      have hRw : IntKind.i64.wrap ((n : Int) - (A : Int)) = (R : Int) := by rw [IntKind.wrap_i64]; omega
      obtain ⟨t, htt⟩ : ∃ t : Int, Int.tmod (k : Int) 2 = t := ⟨_, rfl⟩
      by_cases ht : t = 0
      · subst ht
        by_cases h4 : (40 : Int) < (R : Int)
        · have ip := fun w' => pick_any c (40 : Int) (by omega) (by omega) (by omega) (by omega) w'
          have q0 := pk_nonneg c (40 : Int) (by omega)
          have q1 := pk_lt c (40 : Int) (by omega)
          obtain ⟨q, hq⟩ : ∃ q : Nat, Hid (pk c (40 : Int) = (q : Int)) := ⟨(pk c (40 : Int)).toNat, by unfold Hid; omega⟩
          rw [hq.out] at q0 q1
          have hs : IntKind.i64.wrap ((A : Int) + (q : Int)) = ((A + q : Nat) : Int) := by rw [IntKind.wrap_i64]; omega
          have hs' : IntKind.i64.wrap (((A + q : Nat) : Int) + 1) = ((A + q + 1 : Nat) : Int) := by rw [IntKind.wrap_i64]; omega
          obtain ⟨v3, w3, hap, hO3, hb3⟩ := append_int8 wr w.heap.size _ L ((A + q : Nat) : Int) hO.out (by have := hk.out; omega) hB.out.size
          generalize hG : A + q = G at *
          go_wp2_with (first
            | (go_at_call 6; refine (ip _).mono ?_; rintro e w2 ⟨rfl, h0⟩; have h0 := h0.symm; subst h0; rw [hq.out])
            | (at_builtin; go_must (refine Lib.wpList_append_run _ rfl _ _ 26 26 rfl _ _ rfl rfl _ _ hap ?_)))
          exact ⟨⟨L ++ [((G : Nat) : Int)], G + 1, k + 1, by unfold Hid; have := hk.out; simp; omega, by go_num, by go_num, by omega, by omega, by omega, by unfold Hid; rw [← hG]; exact hR.out.push q, hO3, hB.out.trans hb3⟩, by simp [intOf]; omega⟩
        · have ip := fun w' => pick_any c (R : Int) (by omega) (by omega) (by omega) (by omega) w'
          have q0 := pk_nonneg c (R : Int) (by omega)
          have q1 := pk_lt c (R : Int) (by omega)
          obtain ⟨q, hq⟩ : ∃ q : Nat, Hid (pk c (R : Int) = (q : Int)) := ⟨(pk c (R : Int)).toNat, by unfold Hid; omega⟩
          rw [hq.out] at q0 q1
          have hs : IntKind.i64.wrap ((A : Int) + (q : Int)) = ((A + q : Nat) : Int) := by rw [IntKind.wrap_i64]; omega
          have hs' : IntKind.i64.wrap (((A + q : Nat) : Int) + 1) = ((A + q + 1 : Nat) : Int) := by rw [IntKind.wrap_i64]; omega
          obtain ⟨v3, w3, hap, hO3, hb3⟩ := append_int8 wr w.heap.size _ L ((A + q : Nat) : Int) hO.out (by have := hk.out; omega) hB.out.size
          generalize hG : A + q = G at *
          go_wp2_with (first
            | (go_at_call 6; refine (ip _).mono ?_; rintro e w2 ⟨rfl, h0⟩; have h0 := h0.symm; subst h0; rw [hq.out])
            | (at_builtin; go_must (refine Lib.wpList_append_run _ rfl _ _ 26 26 rfl _ _ rfl rfl _ _ hap ?_)))
          exact ⟨⟨L ++ [((G : Nat) : Int)], G + 1, k + 1, by unfold Hid; have := hk.out; simp; omega, by go_num, by go_num, by omega, by omega, by omega, by unfold Hid; rw [← hG]; exact hR.out.push q, hO3, hB.out.trans hb3⟩, by simp [intOf]; omega⟩
      · have ht' : (t == 0) = false := by simpa using ht
        have ip := fun w' => pick_any c (R : Int) (by omega) (by omega) (by omega) (by omega) w'
        have q0 := pk_nonneg c (R : Int) (by omega)
        have q1 := pk_lt c (R : Int) (by omega)
        obtain ⟨q, hq⟩ : ∃ q : Nat, Hid (pk c (R : Int) = (q : Int)) := ⟨(pk c (R : Int)).toNat, by unfold Hid; omega⟩
        rw [hq.out] at q0 q1
        have hs : IntKind.i64.wrap ((A : Int) + (q : Int)) = ((A + q : Nat) : Int) := by rw [IntKind.wrap_i64]; omega
        have hs' : IntKind.i64.wrap (((A + q : Nat) : Int) + 1) = ((A + q + 1 : Nat) : Int) := by rw [IntKind.wrap_i64]; omega
        obtain ⟨v3, w3, hap, hO3, hb3⟩ := append_int8 wr w.heap.size _ L ((A + q : Nat) : Int) hO.out (by have := hk.out; omega) hB.out.size
        generalize hG : A + q = G at *
        go_wp2_with (first
          | (go_at_call 6; refine (ip _).mono ?_; rintro e w2 ⟨rfl, h0⟩; have h0 := h0.symm; subst h0; rw [hq.out])
          | (at_builtin; go_must (refine Lib.wpList_append_run _ rfl _ _ 26 26 rfl _ _ rfl rfl _ _ hap ?_)))
        exact ⟨⟨L ++ [((G : Nat) : Int)], G + 1, k + 1, by unfold Hid; have := hk.out; simp; omega, by go_num, by go_num, by omega, by omega, by omega, by unfold Hid; rw [← hG]; exact hR.out.push q, hO3, hB.out.trans hb3⟩, by simp [intOf]; omega⟩
    · by_cases g1 : (k : Int) < (N : Int)
      · by_cases g2 : (k : Int) < 20
        · have g3 : ¬ (A : Int) < (n : Int) := fun h => hgo ⟨g1, g2, h⟩
          clear hgo
          by_cases hz : k = 0
          · subst hz
            obtain rfl : L = [] := List.eq_nil_of_length_eq_zero hk.out
            have ip := fun w' => pick_any (n : Int) (n : Int) (by omega) (by omega) (by omega) (by omega) w'
            have q0 := pk_nonneg (n : Int) (n : Int) (by omega)
            have q1 := pk_lt (n : Int) (n : Int) (by omega)
            obtain ⟨q, hq⟩ : ∃ q : Nat, Hid (pk (n : Int) (n : Int) = (q : Int)) := ⟨(pk (n : Int) (n : Int)).toNat, by unfold Hid; omega⟩
            rw [hq.out] at q0 q1
            obtain ⟨v3, w3, hap, hO3, hb3⟩ := append_int8 wr w.heap.size _ [] ((q : Nat) : Int) hO.out (by simp) hB.out.size
            go_wp2_with (first
              | (go_at_call 6; refine (ip _).mono ?_; rintro e w2 ⟨rfl, h0⟩; have h0 := h0.symm; subst h0; rw [hq.out])
              | (at_builtin; go_must (refine Lib.wpList_append_run _ rfl _ _ 26 26 rfl _ _ rfl rfl _ _ hap ?_)))
            go_ret
            obtain ⟨oa, oc, rfl, hat3, hcp3⟩ := hO3.atI8
            refine ⟨oa, oc, _, rfl, hat3, Rsn.ok (A := q + 1) ?_ (by omega) hn hn2 (by simp) (by simp), hB.out.trans hb3, hcp3⟩
            have := (Rsn.nil 0).push q
            simpa using this
          · have hz' : ¬ (k : Int) = 0 := by omega
            go_wp2
            go_ret
            have hat := hat.out
            refine ⟨oa, oc, L, by rw [hk.out]; rfl, hat, hR.out.ok hAn hn hn2 (by have := hk.out; omega) (by have := hk.out; omega), hB.out, hcp.out⟩
        · clear hgo
          have hz : ¬ k = 0 := by omega
          have hz' : ¬ (k : Int) = 0 := by omega
          go_wp2
          go_ret
          have hat := hat.out
          refine ⟨oa, oc, L, by rw [hk.out]; rfl, hat, hR.out.ok hAn hn hn2 (by have := hk.out; omega) (by have := hk.out; omega), hB.out, hcp.out⟩
      · clear hgo
        by_cases hz : k = 0
        · subst hz
          obtain rfl : L = [] := List.eq_nil_of_length_eq_zero hk.out
          have ip := fun w' => pick_any (n : Int) (n : Int) (by omega) (by omega) (by omega) (by omega) w'
          have q0 := pk_nonneg (n : Int) (n : Int) (by omega)
          have q1 := pk_lt (n : Int) (n : Int) (by omega)
          obtain ⟨q, hq⟩ : ∃ q : Nat, Hid (pk (n : Int) (n : Int) = (q : Int)) := ⟨(pk (n : Int) (n : Int)).toNat, by unfold Hid; omega⟩
          rw [hq.out] at q0 q1
          obtain ⟨v3, w3, hap, hO3, hb3⟩ := append_int8 wr w.heap.size _ [] ((q : Nat) : Int) hO.out (by simp) hB.out.size
          go_wp2_with (first
            | (go_at_call 6; refine (ip _).mono ?_; rintro e w2 ⟨rfl, h0⟩; have h0 := h0.symm; subst h0; rw [hq.out])
            | (at_builtin; go_must (refine Lib.wpList_append_run _ rfl _ _ 26 26 rfl _ _ rfl rfl _ _ hap ?_)))
          go_ret
          obtain ⟨oa, oc, rfl, hat3, hcp3⟩ := hO3.atI8
          refine ⟨oa, oc, _, rfl, hat3, Rsn.ok (A := q + 1) ?_ (by omega) hn hn2 (by simp) (by simp), hB.out.trans hb3, hcp3⟩
          have := (Rsn.nil 0).push q
          simpa using this
        · have hz' : ¬ (k : Int) = 0 := by omega
          go_wp2
          go_ret
          have hat := hat.out
          refine ⟨oa, oc, L, by rw [hk.out]; rfl, hat, hR.out.ok hAn hn hn2 (by have := hk.out; omega) (by have := hk.out; omega), hB.out, hcp.out⟩

theorem partOut_ok {l : List (List UInt8)} {b e : Nat} (hw : wrg l = 0) (h1 : b ≤ e) (h2 : e ≤ l.length) : partOut l (b : Int) (e : Int) = (Tree.root (Tree.seg l b e), 0) := by
  unfold partOut
  rw [if_pos hw, if_pos (by omega), Int.toNat_natCast, Int.toNat_natCast]; rfl
end Go.Proofs.YtdmaiodckialmaaDoor

namespace Go.Proofs.YtdmaiodckialmaaDoor
open Go.RowKit Go.Shelf
/-- the hash of the leaves x to y, as a text's bytes -/
def rb (l : List (List UInt8)) (x y : Nat) : ByteArray := ⟨(Tree.root (Tree.seg l x y)).toArray⟩
theorem rb_list (l : List (List UInt8)) (x y : Nat) : (rb l x y).data.toList = Tree.root (Tree.seg l x y) := rfl
/-- what is known: true hashes all of them, and all of KN that lies in [b, b + n) -/
structure Kn (l : List (List UInt8)) (b n : Nat) (KN : List (Nat × Nat)) (K : List Sub) : Prop where
  val : ∀ q ∈ K, ∃ x y : Nat, q = (((x : Int), (y : Int)), rb l x y)
  has : ∀ s ∈ KN, b ≤ s.1 → s.1 < s.2 → s.2 ≤ b + n → (((s.1 : Int), (s.2 : Int)), rb l s.1 s.2) ∈ K
theorem hasI_nat {b e x y : Nat} (h1 : b ≤ x) (h2 : x < y) (h3 : y ≤ e) : hasI (b : Int) (e : Int) (x : Int) (y : Int) = true := by
  unfold hasI
  simp
  omega
theorem Kn.part {l : List (List UInt8)} {b n b' n' : Nat} {KN : List (Nat × Nat)} {K : List Sub} (h : Kn l b n KN K) (h1 : b ≤ b') (h2 : b' + n' ≤ b + n) : Kn l b' n' KN (witS (b' : Int) ((b' + n' : Nat) : Int) K) :=
  ⟨fun q hq => h.val q (List.mem_filter.1 hq).1, fun s hs h3 h4 h5 => List.mem_filter.2 ⟨h.has s hs (by omega) h4 (by omega), hasI_nat h3 h4 h5⟩⟩
theorem Kn.some {l : List (List UInt8)} {b n f : Nat} {KN : List (Nat × Nat)} {K : List Sub} (h : Kn l b n KN K) (hf : n ≤ f) (h1 : 1 ≤ n) (hc : Tree.canF f b n KN = true) : K.length ≠ 0 := by
  obtain ⟨s, hs, a1, a2, a3⟩ := Tree.can_within KN f b n hf h1 hc
  have := h.has s hs a1 a3 a2
  intro e
  rw [List.eq_nil_of_length_eq_zero e] at this
  cases this
theorem foS_root (l : List (List UInt8)) (KN : List (Nat × Nat)) : ∀ (f b n : Nat) (K : List Sub), n ≤ f → 1 ≤ n → b + n ≤ l.length → Kn l b n KN K → Tree.canF f b n KN = true → foS f b n K = some (rb l b (b + n))
  | 0, b, n, K, h1, h2, _, _, _ => by omega
  | f + 1, b, n, K, h1, h2, h3, hK, hc => by
    rw [foS]
    cases hfd : K.find? (fun q => decide (q.1 = ((b : Int), ((b + n : Nat) : Int)))) with
    | some q =>
      have e0 := List.find?_some hfd
      have e := of_decide_eq_true (show decide (q.1 = ((b : Int), ((b + n : Nat) : Int))) = true from e0)
      clear e0
      obtain ⟨x, y, hq⟩ := hK.val q (List.mem_of_find?_eq_some hfd)
      subst hq
      have e1 : (x : Int) = (b : Int) := congrArg Prod.fst e
      have e2 : (y : Int) = ((b + n : Nat) : Int) := congrArg Prod.snd e
      obtain rfl : x = b := by omega
      obtain rfl : y = x + n := by omega
      rfl
    | none =>
      have hno : ¬ (b, b + n) ∈ KN := fun hm => by
        have := hK.has _ hm (Nat.le_refl _) (by show b < b + n; omega) (Nat.le_refl _)
        have hn := List.find?_eq_none.1 hfd _ this
        exact hn (decide_eq_true rfl)
      rw [Tree.canF, if_neg hno] at hc
      by_cases hn2 : n < 2
      · rw [if_pos hn2] at hc; cases hc
      · rw [if_neg hn2, Bool.and_eq_true] at hc
        obtain ⟨c1, c2⟩ := hc
        have s1 := Tree.sp_lt (n := n) (by omega)
        have s2 := Tree.sp_pos (n := n) (by omega)
        have k1 := hK.part (b' := b) (n' := Tree.sp n) (Nat.le_refl _) (by omega)
        have k2 := hK.part (b' := b + Tree.sp n) (n' := n - Tree.sp n) (by omega) (by omega)
        have l1 := k1.some (by omega) (by omega) c1
        have l2 := k2.some (by omega) (by omega) c2
        have r1 := foS_root l KN f b (Tree.sp n) _ (by omega) (by omega) (by omega) k1 c1
        have r2 := foS_root l KN f (b + Tree.sp n) (n - Tree.sp n) _ (by omega) (by omega) (by omega) k2 c2
        rw [show b + Tree.sp n + (n - Tree.sp n) = b + n by omega] at l2 r2
        have rr := Tree.root_seg_two (l := l) (b := b) (n := n) (by omega) h3
        simp only [if_neg hn2]
        rw [if_neg (by intro h; rcases h with h | h; exact l1 h; exact l2 h), r1]
        simp only []
        rw [r2]
        simp only []
        rw [rb_list, rb_list, ← rr]
        rfl
theorem prd_mem {l : List (List UInt8)} : ∀ (KN : List (Nat × Nat)) (q : Sub), q ∈ prd (pm KN) (bas (KN.map fun s => Tree.root (Tree.seg l s.1 s.2))) ↔ ∃ s ∈ KN, q = (((s.1 : Int), (s.2 : Int)), rb l s.1 s.2)
  | [], q => by simp [prd, bas, pm]
  | s :: KN, q => by
    have ih := prd_mem (l := l) KN q
    have e : prd (pm (s :: KN)) (bas ((s :: KN).map fun s => Tree.root (Tree.seg l s.1 s.2))) = (((s.1 : Int), (s.2 : Int)), rb l s.1 s.2) :: prd (pm KN) (bas (KN.map fun s => Tree.root (Tree.seg l s.1 s.2))) := rfl
    rw [e, List.mem_cons, ih]
    constructor
    · rintro (h | ⟨t, ht, h⟩)
      · exact ⟨s, List.mem_cons_self, h⟩
      · exact ⟨t, List.mem_cons_of_mem _ ht, h⟩
    · rintro ⟨t, ht, h⟩
      rcases List.mem_cons.1 ht with rfl | ht
      · exact .inl h
      · exact .inr ⟨t, ht, h⟩
/-- H5, H6: known hashes that reach fold to the root -/
theorem foldA_root (l : List (List UInt8)) (KN : List (Nat × Nat)) (h1 : 1 ≤ l.length) (h2 : l.length ≤ 1099511627776) (hk : KN.length ≤ 4096) (hh : hsB8 (KN.map fun s => Tree.root (Tree.seg l s.1 s.2)) = true) (hc : Tree.canF l.length 0 l.length KN = true) :
    foldA (l.length : Int) (pm KN) (KN.map fun s => Tree.root (Tree.seg l s.1 s.2)) 0 (l.length : Int) = (rb l 0 l.length, 0) := by
  have hi' := insB_of (b := 0) (e := l.length) h1 h2 (by have := Tree.insF_self (f := l.length - 1) (b := 0) (n := l.length); rwa [Nat.zero_add, show l.length - 1 + 1 = l.length by omega] at this)
  have hi : insB (l.length : Int) 0 (l.length : Int) = true := hi'
  have hw : Kn l 0 l.length KN (witS ((0 : Nat) : Int) ((0 + l.length : Nat) : Int) (prd (pm KN) (bas (KN.map fun s => Tree.root (Tree.seg l s.1 s.2))))) :=
    (Kn.mk (b := 0) (n := l.length) (KN := KN) (fun q hq => by
      obtain ⟨s, _, e⟩ := (prd_mem KN q).1 hq
      exact ⟨s.1, s.2, e⟩) (fun s hs _ _ _ => (prd_mem KN _).2 ⟨s, hs, rfl⟩)).part (Nat.le_refl _) (Nat.le_refl _)
  have hf := foS_root l KN l.length 0 l.length _ (Nat.le_refl _) h1 (by omega) hw hc
  rw [Nat.zero_add] at hf
  unfold foldA
  rw [if_pos (by omega), if_pos (by simp [pm]; omega), if_pos hh, if_pos hi]
  have e0 : ((l.length : Int).toNat - (0 : Int).toNat) = l.length := by omega
  rw [e0]
  have e1 : (0 : Int).toNat = 0 := rfl
  rw [e1]
  rw [show ((0 : Nat) : Int) = (0 : Int) from rfl] at hf
  rw [hf]
end Go.Proofs.YtdmaiodckialmaaDoor

namespace Go.Proofs.YtdmaiodckialmaaDoor
open Go.RowKit Go.Shelf
theorem seg_hs {l : List (List UInt8)} (h : Tree.Hs l) (x y : Nat) : Tree.Hs (Tree.seg l x y) := fun t ht => h t (List.mem_of_mem_take (List.mem_of_mem_drop ht))
theorem roots_hs {l : List (List UInt8)} (h : Tree.Hs l) (KN : List (Nat × Nat)) : hsB8 (KN.map fun s => Tree.root (Tree.seg l s.1 s.2)) = true := by
  unfold hsB8
  rw [List.all_eq_true]
  intro t ht
  obtain ⟨s, _, rfl⟩ := List.mem_map.1 ht
  rw [Tree.root_hash (seg_hs h _ _)]
  rfl
/-- the leaves of a list, as spans -/
def lvs (is : List Nat) : List (Nat × Nat) := is.map fun i => (i, i + 1)
theorem lvs_len (is : List Nat) : (lvs is).length = is.length := List.length_map _
theorem lvs_snoc (is : List Nat) (i : Nat) : lvs (is ++ [i]) = lvs is ++ [(i, i + 1)] := by unfold lvs; rw [List.map_append]; rfl
theorem lvs_mem {is : List Nat} {i : Nat} (h : i ∈ is) : (i, i + 1) ∈ lvs is := List.mem_map.2 ⟨i, h, rfl⟩
/-- H6: what lies beside some leaves folds with them to the root -/
theorem fold_oth (l : List (List UInt8)) (hs : Tree.Hs l) (cs : List Int) (hb : BatOk (l.length : Int) cs) (h2 : l.length ≤ 4096) :
    foldA (l.length : Int) (pm (Tree.othF l.length 0 l.length (toN cs) ++ lvs (toN cs))) ((Tree.othF l.length 0 l.length (toN cs) ++ lvs (toN cs)).map fun s => Tree.root (Tree.seg l s.1 s.2)) 0 (l.length : Int) = (rb l 0 l.length, 0) := by
  have h1 : 1 ≤ l.length := by have := hb.n1; omega
  have hc := bat_count hb
  refine foldA_root l _ h1 (by omega) ?_ (roots_hs hs _) ?_
  · rw [List.length_append, lvs_len, hb.len]
    omega
  · exact Tree.can_oth _ (toN cs) _ 0 _ (Nat.le_refl _) h1 (fun s h => List.mem_append_left _ h) (fun i hi _ _ => List.mem_append_right _ (lvs_mem hi))
/-- H6: what lies beside a run of leaves folds with them to the root -/
theorem fold_run (l : List (List UInt8)) (hs : Tree.Hs l) (x y : Nat) (hxy : x < y) (hy : y ≤ l.length) (h2 : l.length ≤ 2048) :
    foldA (l.length : Int) (pm (Tree.runF l.length 0 l.length x y ++ lvs (List.range' x (y - x)))) ((Tree.runF l.length 0 l.length x y ++ lvs (List.range' x (y - x))).map fun s => Tree.root (Tree.seg l s.1 s.2)) 0 (l.length : Int) = (rb l 0 l.length, 0) := by
  have h1 : 1 ≤ l.length := by omega
  have ha := Tree.runF_apart x y l.length 0 l.length h1 (Nat.le_refl _) hxy
  have hl := Apt_len ha
  refine foldA_root l _ h1 (by omega) ?_ (roots_hs hs _) ?_
  · rw [List.length_append, lvs_len, List.length_range']
    omega
  · refine Tree.can_run _ x y _ 0 _ (Nat.le_refl _) h1 (fun s h => List.mem_append_left _ h) (fun i hi hj => List.mem_append_right _ (lvs_mem ?_))
    rw [List.mem_range'_1]
    omega
/-- every span of a batch or a run, and of a path or a proof, is one of [0, n) -/
theorem apt_in : ∀ {L : List (Nat × Nat)} {b e : Nat} {p : Nat → Bool}, Tree.Apt b e L p → ∀ s ∈ L, b ≤ s.1 ∧ s.1 < s.2 ∧ s.2 ≤ e
  | s :: L, b, e, p, h, t, ht => by
    obtain ⟨a1, a2, a3, a4, a5, a6⟩ := h
    rcases List.mem_cons.1 ht with rfl | ht
    · exact ⟨a1, a2, a3⟩
    · have := apt_in a6 t ht
      exact ⟨by omega, this.2.1, this.2.2⟩
end Go.Proofs.YtdmaiodckialmaaDoor

namespace Go.Proofs.YtdmaiodckialmaaDoor
open Go.RowKit Go.Shelf
/-- append(a, b...) of spans -/
theorem append_spl (w : World) (v1 v2 : Value) (l m : List (Nat × Nat)) (h1 : OwnP w v1 l) (h2 : OwnP w v2 m) (hl : l.length ≤ 1099511627776) (hm : m.length ≤ 1099511627776) :
    ∃ v' w', (Builtin.append_ #[22, 22] 22 #[v1, v2]).run Tryd.prog w = .ok v' w' ∧ OwnP w' v' (l ++ m) ∧ Grow w w' v1 v' := by
  obtain ⟨i0, hi, hz0, hz1, hz2⟩ := info_parts infoSp8
  have one : ∀ u ∈ prs m, u.oneCell' = true := fun u hu => by
    simp only [prs, List.mem_flatMap, List.mem_cons, List.not_mem_nil, or_false] at hu
    obtain ⟨q, _, rfl | rfl⟩ := hu <;> rfl
  have hsrc : Src Tryd.prog 2 22 v2 m.length (prs m) w := by
    rcases h2 with ⟨rfl, h, h'⟩ | ⟨g, cap, rfl, _, _, h0, h4, _, _⟩
    · rw [h, h']; exact Src.ofNil w Tryd.underlying22 0
    · exact Src.ofSlice w Tryd.underlying22 ⟨g, 0, none⟩ m.length cap (prs m) h0 (fun j u hj => by rw [Addr.add_mid]; exact h4 j u hj) one
  by_cases hz : v1 = .slice none 0 0 ∧ m.length = 0
  · obtain ⟨rfl, hm0⟩ := hz
    have hl0 : l.length = 0 := by
      rcases h1 with ⟨_, h, _⟩ | ⟨g, cap, h, _⟩
      · exact h
      · cases h
    obtain rfl : l = [] := List.length_eq_zero_iff.1 hl0
    obtain rfl : m = [] := List.length_eq_zero_iff.1 hm0
    refine ⟨.slice none 0 0, w, ?_, OwnM.nil 2 w, ⟨rfl, rfl, rfl, Nat.le_refl _, fun _ _ _ => rfl, .inl rfl⟩⟩
    rcases h2 with ⟨rfl, _⟩ | ⟨g, cap, rfl, _⟩
    · kernel_rfl
    · kernel_rfl
  · obtain ⟨v', w', a1, a2, a3⟩ := run_append_M (P := Tryd.prog) w 22 22 22 25 i0 (.agg #[.int .i64 0, .int .i64 0]) Tryd.underlying22 hi hz0 hz1 rfl v1 l.length (prs l) h1 v2 m.length (prs m) hsrc
      (by rw [hz2]; omega) (by rw [maxLen]; omega) (fun e => by
        rcases Nat.eq_zero_or_pos m.length with h | h
        · exact absurd ⟨e, h⟩ hz
        · exact h)
    refine ⟨v', w', a1, ?_, a3⟩
    rw [OwnP, prs_append, List.length_append]
    exact a2
theorem below_drewN8 {B : Nat} {a w : World} (h : Below B a w) (n : Nat) : Below B a (w.drewN n) := ⟨h.os, h.tape, h.output, h.size, h.block⟩
theorem OwnP.one (w : World) (x y : Nat) : OwnP (w.alloc (.cells #[.int .i64 (x : Int), .int .i64 (y : Int)] 25)) (.slice (some ⟨w.heap.size, 0, none⟩) 1 1) [(x, y)] := by
  have r := heap_alloc_new w (.cells #[.int .i64 (x : Int), .int .i64 (y : Int)] 25)
  refine .inr ⟨w.heap.size, 1, rfl, Nat.le_refl _, by rw [maxLen]; omega, rfl, fun j v hv => ?_, there_of_row r 0 2 (by simp), lt_of_heap r⟩
  rw [cell_of_row _ _ _ _ _ _ r, Nat.zero_add]
  simpa [prs] using hv
theorem Tree.tch_snoc (is : List Nat) (b e : Nat) {j i : Nat} (h : is[j]? = some i) : Tree.tch (is.take (j + 1)) b e = (Tree.tch (is.take j) b e || decide (b ≤ i ∧ i < e)) := by
  unfold Tree.tch
  rw [List.take_add_one, h, Option.toList_some, List.any_append]; simp
set_option maxRecDepth 100000 in
set_option maxHeartbeats 2000000 in
theorem touched_any (b e : Nat) (is : List Nat) (a : Option Addr) (c : Nat) (w : World) (hl : is.length ≤ 1000000) (hA : AtI w a (ix is)) :
    Calls Tryd.prog 43 #[sg b e, .slice a is.length c] w fun r w' => r = .returned (.bool (Tree.tch is b e)) ∧ Below w.heap.size w w' := by
  have S0 := SpI.new w b e
  have B0 := hid ((Below.refl _ w).alloc (Nat.le_refl _) (.cells #[.int .i64 (b : Int), .int .i64 (e : Int)] 25))
  have HS := hid S0
  have HA := hid hA
  obtain ⟨n, hn⟩ : ∃ n, is.length = n := ⟨_, rfl⟩
  have HN := hid hn
  rw [hn] at hl ⊢
  clear S0 hA hn
  go_enter Tryd.func43, Tryd.ntmps43
  go_wp2
  generalize w.alloc (.cells #[.int .i64 (b : Int), .int .i64 (e : Int)] 25) = w1 at *
  go_loopw [5] (fun i w' => ∃ J : Nat, J ≤ n ∧ i = .int .i64 (J : Int) ∧ Hid (Tree.tch (is.take J) b e = false) ∧ Hid (Below w1.heap.size w1 w')) (fun i _ => n - (RowKit.intOf i).toNat)
  case atStart => exact ⟨0, by omega, rfl, rfl, hid (Below.refl _ _)⟩
  case round =>
    obtain ⟨J, hJ, rfl, hT, hB⟩ := hrel
    by_cases hJn : J < n
    · have b1 : (J : Int) < (n : Int) := by omega
      have j0 : (0 : Int) ≤ (J : Int) := by omega
      obtain ⟨i, hi⟩ : ∃ i, is[J]? = some i := ⟨_, List.getElem?_eq_getElem (by rw [HN.out]; exact hJn)⟩
      have hsn := Tree.tch_snoc is b e hi
      rw [hT.out, Bool.false_or] at hsn
      have HSN := hid hsn
      have hall : Hid (b ≤ i ∧ i < e → Tree.tch is b e = true) := fun hbe => Tree.tch_mem.2 ⟨i, List.mem_of_getElem? hi, hbe⟩
      obtain ⟨x, rfl, xb, c0⟩ := HA.out J (i : Int) (ix_get hi)
      have c0 := (B0.out.cell (p := x.add J) (by rw [addr_block]; exact xb)).trans c0
      have c0 := (hB.out.cell (p := x.add J) (by rw [addr_block]; exact Nat.lt_of_lt_of_le xb B0.out.size)).trans c0
      have S1 := HS.out.below hB.out
      have d0 := S1.c0
      have d1 := S1.c1
      have BW := hid (B0.out.trans (hB.out.mono B0.out.size))
      clear S1 hi hsn hT
      by_cases hb : b ≤ i
      · have t1 : (b : Int) ≤ (i : Int) := by omega
        by_cases he : i < e
        · have t2 : (i : Int) < (e : Int) := by omega
          have hT2 := hid (hall.out ⟨hb, he⟩)
          go_wp2
          go_quiet (fail)
          go_wp2
          go_ret
          exact ⟨by rw [hT2.out]; rfl, below_drewN8 BW.out _⟩
        · have t2 : ¬ (i : Int) < (e : Int) := by omega
          have hs2 : Hid (Tree.tch (is.take (J + 1)) b e = false) := by rw [Hid, HSN.out]; exact decide_eq_false (by omega)
          go_wp2
          go_quiet (fail)
          go_wp2
          exact ⟨⟨J + 1, by omega, by go_num, hs2, hid (below_drewN8 hB.out _)⟩, by simp [RowKit.intOf]; omega⟩
      · have t1 : ¬ (b : Int) ≤ (i : Int) := by omega
        have hs2 : Hid (Tree.tch (is.take (J + 1)) b e = false) := by rw [Hid, HSN.out]; exact decide_eq_false (by omega)
        go_wp2
        go_quiet (fail)
        go_wp2
        exact ⟨⟨J + 1, by omega, by go_num, hs2, hid (below_drewN8 hB.out _)⟩, by simp [RowKit.intOf]; omega⟩
    · obtain rfl : J = n := by omega
      have b1 : ¬ (J : Int) < (J : Int) := by omega
      have hT := hT.out
      rw [List.take_of_length_le (by rw [HN.out]; exact Nat.le_refl _)] at hT
      have hT2 := hid hT
      clear hT
      go_wp2
      go_ret
      exact ⟨by rw [hT2.out]; rfl, B0.out.trans (hB.out.mono B0.out.size)⟩
set_option maxRecDepth 100000 in
set_option maxHeartbeats 2000000 in
theorem others_any (is : List Nat) (a : Option Addr) (c : Nat) (hl : is.length ≤ 1000000) : ∀ (f b n : Nat), n ≤ f → 1 ≤ n → b + n ≤ 1099511627776 → ∀ (w : World), AtI w a (ix is) →
    Calls Tryd.prog 22 #[sg b ((b + n : Nat) : Int), .slice a is.length c] w fun r w' => ∃ v, r = .returned v ∧ OwnP w' v (Tree.othF f b n is) ∧ (∀ k, v.ownBlock = some k → w.heap.size ≤ k) ∧ Below w.heap.size w w'
  | 0, b, n, h, h1, _ => by omega
  | f + 1, b, n, h, h1, h2 => by
    intro w hA
    have S0 := SpI.new w b ((b + n : Nat) : Int)
    have B0 := hid ((Below.refl _ w).alloc (Nat.le_refl _) (.cells #[.int .i64 (b : Int), .int .i64 ((b + n : Nat) : Int)] 25))
    have c0 := S0.c0
    have c1 := S0.c1
    have A1 := hA.below B0.out (Nat.le_refl _)
    obtain ⟨e, he⟩ : ∃ e, b + n = e := ⟨_, rfl⟩
    rw [he] at S0 B0 c0 c1 A1 ⊢
    have i1 := touched_any b e is a c _ hl A1
    have HS := hid S0
    have HA := hid A1
    clear S0 A1 hA
    have q2 : IntKind.i64.wrap ((e : Int) - (b : Int)) = (n : Int) := by rw [IntKind.wrap_i64]; omega
    by_cases ht : Tree.tch is b e = false
    · have hres : Tree.othF (f + 1) b n is = [(b, e)] := by rw [Tree.othF_no (by rw [he]; exact ht), he]
      rw [ht] at i1
      have HR := hid hres
      go_enter Tryd.func22, Tryd.ntmps22
      go_wp2_with (go_at_call 43; refine i1.mono ?_; rintro r w2 ⟨rfl, b2⟩; have S2 := HS.out.below b2; have d0 := S2.c0; have d1 := S2.c1; have B2 := hid (B0.out.trans (b2.mono B0.out.size)); clear b2 S2)
      go_ret
      exact ⟨_, rfl, by rw [HR.out]; exact OwnP.one w2 b e, (fun k hk => by cases hk; exact B2.out.size), B2.out.alloc B2.out.size _⟩
    · have ht1 : Tree.tch is b e = true := by simpa using ht
      rw [ht1] at i1
      by_cases hn1 : n = 1
      · subst hn1
        have hres : Tree.othF (f + 1) b 1 is = [] := Tree.othF_one (by rw [he]; exact ht1) (by omega)
        have HR := hid hres
        go_enter Tryd.func22, Tryd.ntmps22
        go_wp2_with (go_at_call 43; refine i1.mono ?_; rintro r w2 ⟨rfl, b2⟩; have S2 := HS.out.below b2; have d0 := S2.c0; have d1 := S2.c1; have B2 := hid (B0.out.trans (b2.mono B0.out.size)); clear b2 S2)
        go_ret
        exact ⟨_, rfl, by rw [HR.out]; exact OwnM.nil 2 _, (fun k hk => by cases hk), B2.out⟩
      · have hn2 : 2 ≤ n := by omega
        have s1 := Tree.sp_lt hn2
        have s2 := Tree.sp_pos hn2
        have hres : Tree.othF (f + 1) b n is = Tree.othF f b (Tree.sp n) is ++ Tree.othF f (b + Tree.sp n) (n - Tree.sp n) is := Tree.othF_two (by rw [he]; exact ht1) hn2
        have ih1 := others_any is a c hl f b (Tree.sp n) (by omega) s2 (by omega)
        have ih2 := others_any is a c hl f (b + Tree.sp n) (n - Tree.sp n) (by omega) (by omega) (by omega)
        have hcnt1 : (Tree.othF f b (Tree.sp n) is).length ≤ 1099511627776 := by
          have := Apt_len (Tree.othF_apart is f b (Tree.sp n) s2 (by omega)); omega
        have hcnt2 : (Tree.othF f (b + Tree.sp n) (n - Tree.sp n) is).length ≤ 1099511627776 := by
          have := Apt_len (Tree.othF_apart is f (b + Tree.sp n) (n - Tree.sp n) (by omega) (by omega)); omega
        obtain ⟨mid, hmid⟩ : ∃ mid, b + Tree.sp n = mid := ⟨_, rfl⟩
        have hmh : Hid (mid = b + Tree.sp (e - b)) := by rw [Hid, ← he, Nat.add_sub_cancel_left]; exact hmid.symm
        have i2 := fun w' => rleft_at b e mid (by omega) (by omega) hmh w'
        have i3 := fun w' => rright_at b e mid (by omega) (by omega) hmh w'
        rw [show b + Tree.sp n + (n - Tree.sp n) = e by omega] at ih2
        rw [hmid] at ih1 ih2 hres hcnt2
        have HR := hid hres
        have q3 : ¬ (n : Int) = 1 := by omega
        clear hres hmh
        generalize Tree.othF f b (Tree.sp n) is = LA at *
        generalize Tree.othF f mid (n - Tree.sp n) is = LB at *
        go_enter Tryd.func22, Tryd.ntmps22
        go_wp2_with (first
          | (go_at_call 43; refine i1.mono ?_; rintro r w2 ⟨rfl, b2⟩; have S2 := hid (HS.out.below b2); have d0 := S2.out.c0; have d1 := S2.out.c1; have B2 := hid (B0.out.trans (b2.mono B0.out.size)); have A2 := hid (HA.out.below b2 (Nat.le_refl _)); clear b2)
          | (go_at_call 44; refine (i2 _).mono ?_; rintro r w3 ⟨rfl, b3⟩; have S3 := hid (S2.out.below b3); have B3 := hid (B2.out.trans (b3.mono B2.out.size)); have A3 := hid (A2.out.below b3 (Nat.le_refl _)); clear b3 S2 A2)
          | (go_at_call 45; refine (i3 _).mono ?_; rintro r w5 ⟨rfl, b5⟩; have B5 := hid (B4.out.trans (b5.mono B4.out.size)); have A5 := hid (A4.out.below b5 (Nat.le_refl _)); have O5 := hid (O4.out.below b5); clear b5 A4 S4 O4)
          | (go_at_call 22; fail))
        refine (ih1 _ A3.out).mono ?_
        rintro r w4 ⟨va, rfl, o4, f4, b4⟩
        have S4 := hid (S3.out.below b4)
        have d0 := S4.out.c0
        have d1 := S4.out.c1
        have z3 := B3.out.size
        have B4 := hid (B3.out.trans (b4.mono B3.out.size))
        have A4 := hid (A3.out.below b4 (Nat.le_refl _))
        have O4 := hid o4
        have F4 := hid f4
        clear o4 f4 b4 S3 A3
        go_wp2_with (first
          | (go_at_call 45; refine (i3 _).mono ?_; rintro r w5 ⟨rfl, b5⟩; have B5 := hid (B4.out.trans (b5.mono B4.out.size)); have A5 := hid (A4.out.below b5 (Nat.le_refl _)); have O5 := hid (O4.out.below b5); clear b5 A4 S4 O4)
          | (go_at_call 22; fail))
        refine (ih2 _ A5.out).mono ?_
        rintro r w6 ⟨vb, rfl, o6, f6, b6⟩
        obtain ⟨v', w7, hap, O7, G7⟩ := append_spl w6 va vb LA LB (O5.out.below b6) o6 hcnt1 hcnt2
        have B6 := B5.out.trans (b6.mono B5.out.size)
        have z6 := B6.size
        have B7 : Below w.heap.size w w7 := B6.trans ⟨G7.os, G7.tape, G7.output, G7.size, fun k hk => G7.old k (by omega) (fun e' => by have := F4.out k e'; omega)⟩
        have F7 : ∀ k, v'.ownBlock = some k → w.heap.size ≤ k := fun k hk => by
          rcases G7.alt with e1 | ⟨e1, _⟩
          · have := F4.out k (e1 ▸ hk); omega
          · have := e1 k hk; omega
        have HB7 := hid B7
        have HF7 := hid F7
        have HO7 := hid O7
        clear o6 f6 b6 O7 G7 B7 F7 B6
        go_wp2_with (at_builtin; go_must (refine Lib.wpList_append_run _ rfl _ _ 22 22 rfl _ _ rfl rfl _ _ hap ?_))
        go_ret
        exact ⟨_, rfl, by rw [HR.out]; exact HO7.out, HF7.out, HB7.out⟩
end Go.Proofs.YtdmaiodckialmaaDoor
