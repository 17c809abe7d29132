import Derived.Test.YtkamjpjmdibfgaaPkKR7
import Derived.Test.YtkamjpjmdibfgaaPkKL2
import Derived.Deep.LoopGhost
import Derived.BigQuiet
import Derived.Deep.RegionHeld3
/- Layer 15, the document's cache: Put makes room -/
namespace Go.Proofs.Ytkamjpjmdibfgaa
open Go.RowKit Go.Maps
namespace Kc
theorem tot_sub {L M : List En} (h : L.Sublist M) : tot L ≤ tot M := by
  induction h with
  | slnil => exact Nat.le_refl _
  | cons x _ ih => simp only [tot_cons]; omega
  | cons_cons x _ ih => simp only [tot_cons]; omega
theorem append_cut (w : World) (g cap : Nat) (X Y : List En) (e : En) (b : Addr) (c : Nat) (hb : b = ⟨g, (X.length + 1) * 3, none⟩ ∨ Y = []) (h : OwnM 3 w (.slice (some ⟨g, 0, none⟩) (X ++ e :: Y).length cap) (X ++ e :: Y).length (thc (X ++ e :: Y))) (hl : (X ++ e :: Y).length ≤ 1000000) :
    ∃ v' w', (Builtin.append_ #[52, 52] 52 #[.slice (some ⟨g, 0, none⟩) X.length cap, .slice (some b) Y.length c]).run Try.prog w = .ok v' w' ∧ OwnM 3 w' v' (X ++ Y).length (thc (X ++ Y)) ∧ Grow w w' (.slice (some ⟨g, 0, none⟩) X.length cap) v' := by
  obtain ⟨i0, hi, hz0, hz1, hz2⟩ := info_parts infoT
  have hl' : X.length + (Y.length + 1) ≤ 1000000 := by simpa using hl
  have hsrc : Src Try.prog 3 52 (.slice (some b) Y.length c) Y.length (thc Y) w := by
    refine Src.ofSlice w Try.underlying52 b Y.length c (thc Y) (thc_len Y) (fun j u hj => ?_) thc_one
    rcases hb with rfl | rfl
    · have hj' : j < (thc Y).length := (List.getElem?_eq_some_iff.1 hj).1
      have h1 : (thc (X ++ e :: Y))[(X.length + 1) * 3 + j]? = some u := by
        rw [show X ++ e :: Y = (X ++ [e]) ++ Y by simp, thc_append, List.getElem?_append_right (by rw [thc_len]; simp), thc_len]
        rw [show (X.length + 1) * 3 + j - (X ++ [e]).length * 3 = j by simp]
        exact hj
      obtain ⟨g2, cap2, e2, h2, _⟩ := h.cell h1
      injection e2 with e2 _ _
      injection e2 with e2
      injection e2 with e2
      subst e2
      rw [Addr.add_mid]
      exact h2
    · simp [thc] at hj
  have h1 := OwnM.cut h (k := X.length) (by simp)
  have e1 : (thc (X ++ e :: Y)).take (X.length * 3) = thc X := by
    rw [thc_append, List.take_append_of_le_length (by rw [thc_len]; exact Nat.le_refl _), List.take_of_length_le (by rw [thc_len]; exact Nat.le_refl _)]
  rw [e1] at h1
  obtain ⟨v', w', a1, a2, a3⟩ := run_append_M (P := Try.prog) w 52 52 52 79 i0 _ Try.underlying52 hi hz0 hz1 rfl _ X.length (thc X) h1 _ Y.length (thc Y) hsrc
    (by rw [hz2]; omega) (by rw [maxLen]; omega) (fun e => by cases e)
  refine ⟨v', w', a1, ?_, a3⟩
  rw [thc_append, List.length_append]
  exact a2
/-- while room is made -/
structure Rm (w : World) (a B n p : Nat) (v : Value) (T : Obj) (R : List En) (f m o : Nat) (u : Value) (X Y : List En) (o' : Nat) (w' : World) : Prop where
  row : Rr w' a B v f m o'
  own : OwnM 3 w' u (X ++ Y).length (thc (X ++ Y))
  fre : ∀ k, u.ownBlock = some k → w.heap.size ≤ k ∧ k ≠ p
  tng : w'.heap[p]? = some T
  rm : evr B n (tot (X ++ Y)) X ++ Y = room B n R
  cn : o' + (X ++ Y).length = o + R.length
  kp : Keep (fun k => k = a) w w'
  sb : (X ++ Y).Sublist R
theorem Rm.le {w w' : World} {a B n p : Nat} {v : Value} {T : Obj} {R : List En} {f m o : Nat} {u : Value} {X Y : List En} {o' : Nat} (h : Rm w a B n p v T R f m o u X Y o' w') : (X ++ Y).length ≤ R.length := h.sb.length_le
theorem Rm.tl {w w' : World} {a B n p : Nat} {v : Value} {T : Obj} {R : List En} {f m o : Nat} {u : Value} {X Y : List En} {o' : Nat} (h : Rm w a B n p v T R f m o u X Y o' w') : tot (X ++ Y) ≤ tot R := tot_sub h.sb
theorem Rm.drew {w w' : World} {a B n p : Nat} {v : Value} {T : Obj} {R : List En} {f m o : Nat} {u : Value} {X Y : List En} {o' : Nat} (h : Rm w a B n p v T R f m o u X Y o' w') : Rm w a B n p v T R f m o u X Y o' w'.drew := ⟨h.row, h.own, h.fre, h.tng, h.rm, h.cn, keep_drew h.kp, h.sb⟩
theorem Rm.drewN {w w' : World} {a B n p : Nat} {v : Value} {T : Obj} {R : List En} {f m o : Nat} {u : Value} {X Y : List En} {o' : Nat} (h : Rm w a B n p v T R f m o u X Y o' w') (k : Nat) : Rm w a B n p v T R f m o u X Y o' (w'.drewN k) := ⟨h.row, h.own, h.fre, h.tng, h.rm, h.cn, ⟨h.kp.os, h.kp.tape, h.kp.output, h.kp.size, h.kp.block⟩, h.sb⟩
theorem Rm.pin {w w' : World} {a B n p : Nat} {v : Value} {T : Obj} {R : List En} {f m o : Nat} {u : Value} {X Y : List En} {x : En} {o' : Nat} (h : Rm w a B n p v T R f m o u (X ++ [x]) Y o' w') (h1 : ¬ tot (X ++ [x] ++ Y) + n ≤ B) (h2 : x.p ≠ 0) : Rm w a B n p v T R f m o u X (x :: Y) o' w' := by
  have e : X ++ [x] ++ Y = X ++ x :: Y := by simp
  refine ⟨h.row, e ▸ h.own, h.fre, h.tng, ?_, e ▸ h.cn, h.kp, e ▸ h.sb⟩
  have := h.rm
  rw [evr_pin h1 h2] at this
  rw [e] at this
  simpa using this
theorem Rm.out {w w' w'' : World} {a B n p : Nat} {v : Value} {T : Obj} {R : List En} {f m o : Nat} {u u' : Value} {X Y : List En} {x : En} {o' : Nat} (h : Rm w a B n p v T R f m o u (X ++ [x]) Y o' w') (hap : a ≠ p) (haw : a < w.heap.size) (h1 : ¬ tot (X ++ [x] ++ Y) + n ≤ B) (h2 : x.p = 0) (ho : OwnM 3 w'' u' (X ++ Y).length (thc (X ++ Y))) {u0 : Value} (hu : u0.ownBlock = u.ownBlock) (hg : Grow (w'.setCell ⟨a, 4, none⟩ (.int .i64 ((o' + 1 : Nat) : Int))).drew w'' u0 u') :
    Rm w a B n p v T R f m o u' X Y (o' + 1) w'' := by
  have e : X ++ [x] ++ Y = X ++ x :: Y := by simp
  have hcn := h.cn
  rw [e] at hcn
  simp at hcn
  have ha' : a < w'.heap.size := Nat.lt_of_lt_of_le haw h.kp.size
  have hp' : p < w'.heap.size := lt_of_heap h.tng
  have hs : (w'.setCell ⟨a, 4, none⟩ (.int .i64 ((o' + 1 : Nat) : Int))).drew.heap.size = w'.heap.size := by simp [World.setCell, World.drew]
  have hold : ∀ k, k < w'.heap.size → u.ownBlock ≠ some k → w''.heap[k]? = (w'.setCell ⟨a, 4, none⟩ (.int .i64 ((o' + 1 : Nat) : Int))).heap[k]? := fun k hk hn => hg.old k (by rw [hs]; exact hk) (by rw [hu]; exact hn)
  refine ⟨?_, ho, ?_, ?_, ?_, by simp; omega, ?_, ?_⟩
  · show _ = _
    rw [hold a ha' fun e => by have := (h.fre a e).1; omega, heap_setCell_same _ _ _ _ _ _ h.row]; rfl
  · intro k hk
    rcases hg.alt with e | ⟨e, _⟩
    · exact h.fre k (by rw [← hu, ← e]; exact hk)
    · have := e k hk
      rw [hs] at this
      have := h.kp.size
      exact ⟨by omega, by omega⟩
  · rw [hold p hp' fun e => (h.fre p e).2 rfl, heap_setCell_other _ _ _ _ (Ne.symm hap)]; exact h.tng
  · have := h.rm
    rw [evr_out h1 h2] at this
    rw [← this]
    congr 2
    simp
    omega
  · refine ⟨hg.os.trans h.kp.os, hg.tape.trans h.kp.tape, hg.output.trans h.kp.output, by have := hg.size; rw [hs] at this; exact Nat.le_trans h.kp.size this, fun k hk hn => ?_⟩
    rw [hold k (Nat.lt_of_lt_of_le hk h.kp.size) fun e => by have := (h.fre k e).1; omega, heap_setCell_other _ _ _ _ hn]
    exact h.kp.block k hk hn
  · refine List.Sublist.trans ?_ h.sb
    rw [e]
    exact List.Sublist.append_left (List.sublist_cons_self _ _) _
theorem Rm.fit {w w' : World} {a B n p : Nat} {v : Value} {T : Obj} {R : List En} {f m o : Nat} {u : Value} {X Y : List En} {o' : Nat} (h : Rm w a B n p v T R f m o u X Y o' w') (h1 : X = [] ∨ tot (X ++ Y) + n ≤ B) : X ++ Y = room B n R := by
  rcases h1 with rfl | h1
  · exact h.rm
  · have := h.rm
    rwa [evr_fit h1] at this
/-- when room is made -/
structure Rn (w : World) (a B n p : Nat) (v : Value) (T : Obj) (R : List En) (f m o : Nat) (u : Value) (o' : Nat) (w' : World) : Prop where
  row : Rr w' a B v f m o'
  own : OwnM 3 w' u (room B n R).length (thc (room B n R))
  tng : w'.heap[p]? = some T
  cn : o' + (room B n R).length = o + R.length
  kp : Keep (fun k => k = a) w w'
theorem Rm.fin {w w' : World} {a B n p : Nat} {v : Value} {T : Obj} {R : List En} {f m o : Nat} {u : Value} {X Y : List En} {o' : Nat} (h : Rm w a B n p v T R f m o u X Y o' w') (h1 : X = [] ∨ tot (X ++ Y) + n ≤ B) : Rn w a B n p v T R f m o u o' w' := by
  have e := h.fit h1
  have h3 := h.own
  have h4 := h.cn
  rw [e] at h3 h4
  exact ⟨h.row, h3, h.tng, h4, h.kp⟩
theorem step_append_run {P : Program} {ops : Array Oper} {o : Oper} {a : Act} {w : World} {K : Act → World → Prop} {Q : Exit → Act → World → Prop} {E : Prop}
    (hg : o.guard = none) (s x : Operand) (t : TypeId) (hop : o.op = Op.call { callee := Callee.builtin Builtin.append, args := #[s, x], argTypes := #[t, t] })
    (v1 v2 v' : Value) (w' : World) (hs : a.eval s = v1) (hx : a.eval x = v2) (hrun : (Builtin.append_ #[t, t] o.type #[v1, v2]).run P w = .ok v' w') (hK : K (a.put o.dst v') w') :
    if Region.wanted o (yielded ops a.tmps) = true then Oper.wp P o a w K Q else E := by
  have hw : Region.wanted o (yielded ops a.tmps) = true := by simp [Region.wanted, hg]
  rw [if_pos hw]
  unfold Oper.wp
  simp [execOp, hop, resolve, invoke, builtin, hs, hx, hrun, Result.andThen]
  exact hK
theorem wp_last {P : Program} {s : Code} {Q : Exit → Act → World → Prop} {a : Act} {w : World} (h : ∀ K : Act → World → Prop, (∀ a' w', Q .normal a' w' → K a' w') → (∀ a' w', K a' w' → Q .normal a' w') → s.wp P (Exit.then K Q) a w) : s.wp P Q a w := by
  refine wp_mono (h (fun a w => Q .normal a w) (fun _ _ h => h) (fun _ _ h => h)) ?_
  intro e a' w' hq
  cases e <;> exact hq
theorem wp_normal {P : Program} {s : Code} {Q : Exit → Act → World → Prop} {a : Act} {w : World} (h : s.wp P (Exit.then (fun a w => Q .normal a w) (fun _ _ _ => False)) a w) : s.wp P Q a w := by
  refine wp_mono h ?_
  intro e a' w' hq
  cases e <;> first | exact hq | exact hq.elim
noncomputable def putT : Code := (match Try.f14.body.bind (fromR 10) with | some (.seq c _) => c | _ => .skip)
set_option maxRecDepth 1000000 in
set_option maxHeartbeats 8000000 in
theorem rput_room0 {w wr : World} {a B n p : Nat} {v u : Value} {T : Obj} {R : List En} {f m o : Nat} (M0 : Rm w a B n p v T R f m o u R [] o wr) (hap : a ≠ p) (haw : a < w.heap.size) (hR : R.length ≤ 1000000) (ht : tot R ≤ 1000000000000) (hn : n ≤ 1000000000000) (ho : o ≤ 1000000000000)
    (u1 u2 u3 u4 u5 u6 u8 u12 u13 u14 u15 u16 u17 u18 u19 u20 u21 u22 u23 u24 u25 u26 u27 u28 u29 u30 u31 u32 u33 u34 u35 u36 u37 u38 u39 u40 u41 u42 u43 u44 u45 u46 u47 u48 u49 u50 u51 u52 u53 u54 u55 u56 u57 u58 u59 u60 u61 u62 u63 u64 u65 u66 u67 u68 u69 u70 u71 u72 u73 u74 u75 u76 u77 u78 u79 u80 u81 u82 u83 u84 u85 u86 u87 u88 u89 u90 u91 u92 u93 u94 u95 u96 u97 u98 u99 u100 u101 u102 u103 u104 u105 u106 u107 u108 u109 u110 u111 u112 u113 u114 u115 u116 : Value) (Q : Act → World → Prop) (hQ : ∀ (c11 c13 c60 c61 c62 c63 c64 c65 c66 c67 c68 c69 c70 c71 c72 c73 c74 c75 c76 c77 c78 c79 c80 c81 c82 c83 c84 c85 c86 c87 c88 c89 c90 c91 c92 c93 c94 c95 c96 c97 c98 c99 c100 c101 c102 c103 c104 c105 c106 c107 c108 c109 c110 c111 c112 v' : Value) (w' : World) (o' : Nat), Rn w a B n p v T R f m o v' o' w' → Q ⟨#[.pointer (some ⟨a, 0, none⟩), u1, u2, u3, u4, u5, u6, .pointer (some ⟨p, 0, none⟩), u8, v', .int .i64 (n : Int), c11, u12, c13, u14, u15, u16, u17, u18, u19, u20, u21, u22, u23, u24, u25, u26, u27, u28, u29, u30, u31, u32, u33, u34, u35, u36, u37, u38, u39, u40, u41, u42, u43, u44, u45, u46, u47, u48, u49, u50, u51, u52, u53, u54, u55, u56, u57, u58, u59, c60, c61, c62, c63, c64, c65, c66, c67, c68, c69, c70, c71, c72, c73, c74, c75, c76, c77, c78, c79, c80, c81, c82, c83, c84, c85, c86, c87, c88, c89, c90, c91, c92, c93, c94, c95, c96, c97, c98, c99, c100, c101, c102, c103, c104, c105, c106, c107, c108, c109, c110, c111, c112, u113, u114, u115, u116], []⟩ w') :
    Code.wp Try.prog putT (Exit.then Q (fun _ _ _ => False)) ⟨#[.pointer (some ⟨a, 0, none⟩), u1, u2, u3, u4, u5, u6, .pointer (some ⟨p, 0, none⟩), u8, u, .int .i64 (n : Int), .int .i64 (tot R : Int), u12, u13, u14, u15, u16, u17, u18, u19, u20, u21, u22, u23, u24, u25, u26, u27, u28, u29, u30, u31, u32, u33, u34, u35, u36, u37, u38, u39, u40, u41, u42, u43, u44, u45, u46, u47, u48, u49, u50, u51, u52, u53, u54, u55, u56, u57, u58, u59, u60, u61, u62, u63, u64, u65, u66, u67, u68, u69, u70, u71, u72, u73, u74, u75, u76, u77, u78, u79, u80, u81, u82, u83, u84, u85, u86, u87, u88, u89, u90, u91, u92, u93, u94, u95, u96, u97, u98, u99, u100, u101, u102, u103, u104, u105, u106, u107, u108, u109, u110, u111, u112, u113, u114, u115, u116], []⟩ wr := by
  conv => arg 2; whnf
  have HQ := hid hQ
  have M0 := hid M0
  obtain ⟨xu, cu, hu, _, _⟩ := M0.out.own.shape
  subst hu
  obtain ⟨N, hN⟩ : ∃ N, R.length = N := ⟨_, rfl⟩
  have HN := hid hN
  have hNN : (R ++ []).length = N := by rw [List.append_nil]; exact hN
  rw [hNN] at M0 ⊢
  have hNi : IntKind.i64.wrap ((N : Int) - 1) = (N : Int) - 1 := by rw [IntKind.wrap_i64]; omega
  have HT := hid ht
  have HR := hid hR
  have HO := hid ho
  clear hQ hN hNN ht hR ho
  go_wp2
  go_loopg [9, 11, 13] R.length (fun k u t i w' => ∃ X Y o', k = X.length ∧ i = .int .i64 ((X.length : Int) - 1) ∧ t = .int .i64 (tot (X ++ Y) : Int) ∧ Hid (Rm w a B n p v T R f m o u X Y o' w'))
  case atStart => exact ⟨R, [], o, rfl, by rw [HN.out], by rw [List.append_nil], M0⟩
  case round =>
    obtain ⟨X, Y, o', hk, rfl, rfl, M⟩ := hrel
    rcases snoc_cases X with rfl | ⟨X, x, rfl⟩
    · rw [show ((([] : List En).length : Int)) - 1 = -1 from rfl]
      go_wp2
      exact HQ.out _ _ _ _ _ _ _ _ _ _ _ _ _ _ _ _ _ _ _ _ _ _ _ _ _ _ _ _ _ _ _ _ _ _ _ _ _ _ _ _ _ _ _ _ _ _ _ _ _ _ _ _ _ _ _ _ _ _ (M.out.fin (.inl rfl))
    · have ex : (((X ++ [x]).length : Int)) - 1 = (X.length : Int) := by simp
      rw [ex]
      have ee : X ++ [x] ++ Y = X ++ x :: Y := by simp
      have hO := M.out.own
      rw [ee] at hO
      obtain ⟨g, cap, hv, k0, k1, k2, hgl⟩ := ownM_e hO
      have hlen : (X ++ x :: Y).length ≤ 1000000 := by
        have h1 := M.out.cn
        have h2 := HR.out
        rw [ee] at h1
        have h3 := M.out.le
        rw [ee] at h3
        omega
      have htt : tot (X ++ x :: Y) ≤ 1000000000000 := by
        have h3 := M.out.tl
        rw [ee] at h3
        exact Nat.le_trans h3 HT.out
      have hcn := M.out.cn
      rw [ee] at hcn
      have hoo : o' ≤ 1000000000000 + 1000000 := by
        have h1 := HO.out
        have h2 := HR.out
        omega
      subst hv
      have d0 : wr.cell? ⟨a, 0, none⟩ = some (.int .i64 (B : Int)) := by rw [cell_of_row _ _ _ _ _ _ M.out.row]; rfl
      have d4 : wr.cell? ⟨a, 4, none⟩ = some (.int .i64 (o' : Int)) := by rw [cell_of_row _ _ _ _ _ _ M.out.row]; rfl
      have f4 : wr.frozen? ⟨a, 4, none⟩ = false := frozen_of_row _ _ _ _ _ M.out.row
      have hxk : Hid (X.length < gk) := by show _ < _; rw [hk]; simp
      have hcap : (X ++ x :: Y).length ≤ cap := by
        obtain ⟨_, c2, h1, h2, _⟩ := hO.shape
        injection h1 with _ _ h1
        rw [h1]; exact h2
      have hlx : (X ++ x :: Y).length = X.length + (Y.length + 1) := by simp
      have HLX := hid hlx
      obtain ⟨N1, hN1⟩ : ∃ N1, (X ++ x :: Y).length = N1 := ⟨_, rfl⟩
      obtain ⟨k, hkX⟩ : ∃ k, X.length = k := ⟨_, rfl⟩
      obtain ⟨t, htq⟩ : ∃ t, tot (X ++ [x] ++ Y) = t := ⟨_, rfl⟩
      have htq2 : tot (X ++ x :: Y) = t := by rw [← ee]; exact htq
      rw [htq]
      rw [htq2] at htt
      rw [hN1] at hlen hcap hlx hcn M ⊢
      rw [hkX] at k0 k1 k2 hlx ⊢
      have HKX := hid hkX
      have HN1 := hid hN1
      have y1 : (k : Int) < (N1 : Int) := by omega
      have y3 : (0 : Int) ≤ (k : Int) := by omega
      obtain ⟨s, hs⟩ : ∃ s, t + n = s := ⟨_, rfl⟩
      have e1 : IntKind.i64.wrap ((t : Int) + (n : Int)) = (s : Int) := by rw [IntKind.wrap_i64]; omega
      by_cases hf : s ≤ B
      · have e2 : ¬ (B : Int) < (s : Int) := by omega
        have e3 : decide ((B : Int) < (s : Int)) = false := decide_eq_false e2
        have hx : Hid (tot (X ++ [x] ++ Y) + n ≤ B) := by show _ ≤ _; omega
        clear htq htq2 hs hf htt hO ee hcn hlx k0 k1 k2 hN1 hkX hk
        go_wp2
        exact HQ.out _ _ _ _ _ _ _ _ _ _ _ _ _ _ _ _ _ _ _ _ _ _ _ _ _ _ _ _ _ _ _ _ _ _ _ _ _ _ _ _ _ _ _ _ _ _ _ _ _ _ _ _ _ _ _ _ _ _ (M.out.fin (.inr hx.out))
      · have e2 : (B : Int) < (s : Int) := by omega
        have e3 : decide ((B : Int) < (s : Int)) = true := decide_eq_true e2
        have hx : Hid (¬ tot (X ++ [x] ++ Y) + n ≤ B) := by show ¬ _; omega
        by_cases hp : x.p = 0
        · have hp1 : (x.p : Int) = 0 := by omega
          rw [hp1] at k2
          have HP := hid hp
          have hxn : tot (X ++ x :: Y) = tot (X ++ Y) + x.n := by rw [tot_append, tot_append, tot_cons]; omega
          obtain ⟨t2, ht2⟩ : ∃ t2, tot (X ++ Y) = t2 := ⟨_, rfl⟩
          have hen : (ByteArray.mk x.k.toArray).size + (ByteArray.mk x.v.toArray).size = x.n := by rw [sv_size, sv_size]; rfl
          rw [htq2, ht2] at hxn
          obtain ⟨E1, hE1⟩ : ∃ E1, ByteArray.mk x.k.toArray = E1 := ⟨_, rfl⟩
          obtain ⟨E2, hE2⟩ : ∃ E2, ByteArray.mk x.v.toArray = E2 := ⟨_, rfl⟩
          rw [hE1] at k0 hen
          rw [hE2] at k1 hen
          obtain ⟨t1, ht1⟩ : ∃ t1, t2 + E2.size = t1 := ⟨_, rfl⟩
          have w1 : IntKind.i64.wrap ((t : Int) - (E1.size : Int)) = (t1 : Int) := by rw [IntKind.wrap_i64]; omega
          have w2 : IntKind.i64.wrap ((t1 : Int) - (E2.size : Int)) = (t2 : Int) := by rw [IntKind.wrap_i64]; omega
          obtain ⟨o1, ho1⟩ : ∃ o1, o' + 1 = o1 := ⟨_, rfl⟩
          have w3 : IntKind.i64.wrap ((o' : Int) + 1) = (o1 : Int) := by rw [IntKind.wrap_i64]; omega
          have HT2 := hid ht2
          have HO1 := hid ho1
          clear htq htq2 hs hf htt hO ee hcn hlx hN1 hkX hk hp hp1 hxn hen ht1 hE1 hE2 ht2 hoo ho1 HT HO
          go_wp2
          go_quiet (fail)
          go_wp2
          have M5 : Hid (Rm w a B n p v T R f m o (.slice (some ⟨g, 0, none⟩) N1 cap) (X ++ [x]) Y o' (wr.drewN nq)) := M.out.drewN nq
          have O5 : OwnM 3 ((wr.drewN nq).setCell ⟨a, 4, none⟩ (.int .i64 (o1 : Int))).drew (.slice (some ⟨g, 0, none⟩) (X ++ x :: Y).length cap) (X ++ x :: Y).length (thc (X ++ x :: Y)) := by
            have h1 := M5.out.own
            rw [show X ++ [x] ++ Y = X ++ x :: Y by simp, ← HN1.out] at h1
            refine OwnM.drew (h1.kept (by simp [World.setCell]) fun g' hg' => heap_setCell_other _ _ _ _ fun e => ?_)
            have := (M5.out.fre g' hg').1
            have e : g' = a := e
            omega
          have A1 := fun b c hb => append_cut _ g cap X Y x b c hb O5 (by rw [HN1.out]; exact hlen)
          obtain ⟨k1', hk1⟩ : ∃ k1', k + 1 = k1' := ⟨_, rfl⟩
          obtain ⟨yl, hyl⟩ : ∃ yl, Y.length = yl := ⟨_, rfl⟩
          rw [HKX.out, hyl, hk1] at A1
          have hlx := HLX.out
          rw [HN1.out, HKX.out, hyl] at hlx
          have v1 : IntKind.i64.wrap ((k : Int) + 1) = (k1' : Int) := by rw [IntKind.wrap_i64]; omega
          have v2 : (k1' : Int) ≤ (N1 : Int) := by omega
          have v3 : (0 : Int) ≤ (k1' : Int) := by omega
          have v4 : (k : Int) ≤ (cap : Int) := by omega
          have v5 : N1 - k1' = yl := by omega
          obtain ⟨w5, hw5⟩ : ∃ w5, (wr.drewN nq).setCell ⟨a, 4, none⟩ (.int .i64 (o1 : Int)) = w5 := ⟨_, rfl⟩
          have HW5 := hid hw5
          rw [hw5] at A1 ⊢
          have hcap0 : cap ≠ 0 := by omega
          clear O5 hw5 d0 d4 f4 e1 e2 e3 w1 w2 w3
          obtain ⟨v', w6, ha, O6, G6⟩ : ∃ v' w', (Builtin.append_ #[52, 52] 52 #[.slice (some ⟨g, 0, none⟩) k cap, .slice (if cap = k1' then some ⟨g, 0, none⟩ else some ⟨g, k1' * 3, none⟩) (N1 - k1') (cap - k1')]).run Try.prog w5.drew = .ok v' w' ∧ OwnM 3 w' v' (X ++ Y).length (thc (X ++ Y)) ∧ Grow w5.drew w' (.slice (some ⟨g, 0, none⟩) k cap) v' := by
            rw [v5]
            by_cases hc : cap = k1'
            · rw [if_pos hc]
              exact A1 ⟨g, 0, none⟩ (cap - k1') (.inr (List.length_eq_zero_iff.1 (by omega)))
            · rw [if_neg hc]
              exact A1 ⟨g, k1' * 3, none⟩ (cap - k1') (.inl rfl)
          have FIN : Hid (Rm w a B n p v T R f m o v' X Y (o' + 1) w6) := M5.out.out hap haw hx.out HP.out O6 (u0 := .slice (some ⟨g, 0, none⟩) k cap) rfl (by rw [HO1.out, HW5.out]; exact G6)
          clear A1 O6 G6 M5 hlx hk1 hyl v5
          go_region_held3 (fun _ => True) (trivial) (refine step_append_run rfl _ _ 52 rfl _ _ _ w6 rfl rfl ha ?_)
          all_goals go_wp2
          all_goals go_roundg X.length
          all_goals first | exact hxk.out | exact ⟨X, Y, o' + 1, rfl, by rw [HKX.out], by rw [HT2.out], FIN⟩
        · obtain ⟨pe, hpe⟩ : ∃ pe, x.p = pe := ⟨_, rfl⟩
          rw [hpe] at k2
          have z1 : 0 < (pe : Int) := by omega
          have z3 : 0 < pe := by omega
          have HP := hid hp
          have HTQ := hid htq2
          clear htq htq2 hs hf htt hO ee hcn hlx hN1 hkX hk hp hpe k0 k1
          go_wp2
          go_roundg X.length
          case measure => exact hxk.out
          case rel => exact ⟨X, x :: Y, o', rfl, by rw [HKX.out], by rw [HTQ.out], M.out.pin hx.out HP.out⟩
theorem rput_room {w wr : World} {a B n p : Nat} {v u : Value} {T : Obj} {R : List En} {f m o : Nat} (M0 : Rm w a B n p v T R f m o u R [] o wr) (hap : a ≠ p) (haw : a < w.heap.size) (hR : R.length ≤ 1000000) (ht : tot R ≤ 1000000000000) (hn : n ≤ 1000000000000) (ho : o ≤ 1000000000000)
    (u1 u2 u3 u4 u5 u6 u8 u12 u13 u14 u15 u16 u17 u18 u19 u20 u21 u22 u23 u24 u25 u26 u27 u28 u29 u30 u31 u32 u33 u34 u35 u36 u37 u38 u39 u40 u41 u42 u43 u44 u45 u46 u47 u48 u49 u50 u51 u52 u53 u54 u55 u56 u57 u58 u59 u60 u61 u62 u63 u64 u65 u66 u67 u68 u69 u70 u71 u72 u73 u74 u75 u76 u77 u78 u79 u80 u81 u82 u83 u84 u85 u86 u87 u88 u89 u90 u91 u92 u93 u94 u95 u96 u97 u98 u99 u100 u101 u102 u103 u104 u105 u106 u107 u108 u109 u110 u111 u112 u113 u114 u115 u116 : Value) (Q : Exit → Act → World → Prop) (hQ : ∀ (c11 c13 c60 c61 c62 c63 c64 c65 c66 c67 c68 c69 c70 c71 c72 c73 c74 c75 c76 c77 c78 c79 c80 c81 c82 c83 c84 c85 c86 c87 c88 c89 c90 c91 c92 c93 c94 c95 c96 c97 c98 c99 c100 c101 c102 c103 c104 c105 c106 c107 c108 c109 c110 c111 c112 v' : Value) (w' : World) (o' : Nat), Rn w a B n p v T R f m o v' o' w' → Q .normal ⟨#[.pointer (some ⟨a, 0, none⟩), u1, u2, u3, u4, u5, u6, .pointer (some ⟨p, 0, none⟩), u8, v', .int .i64 (n : Int), c11, u12, c13, u14, u15, u16, u17, u18, u19, u20, u21, u22, u23, u24, u25, u26, u27, u28, u29, u30, u31, u32, u33, u34, u35, u36, u37, u38, u39, u40, u41, u42, u43, u44, u45, u46, u47, u48, u49, u50, u51, u52, u53, u54, u55, u56, u57, u58, u59, c60, c61, c62, c63, c64, c65, c66, c67, c68, c69, c70, c71, c72, c73, c74, c75, c76, c77, c78, c79, c80, c81, c82, c83, c84, c85, c86, c87, c88, c89, c90, c91, c92, c93, c94, c95, c96, c97, c98, c99, c100, c101, c102, c103, c104, c105, c106, c107, c108, c109, c110, c111, c112, u113, u114, u115, u116], []⟩ w') :
    Code.wp Try.prog putT Q ⟨#[.pointer (some ⟨a, 0, none⟩), u1, u2, u3, u4, u5, u6, .pointer (some ⟨p, 0, none⟩), u8, u, .int .i64 (n : Int), .int .i64 (tot R : Int), u12, u13, u14, u15, u16, u17, u18, u19, u20, u21, u22, u23, u24, u25, u26, u27, u28, u29, u30, u31, u32, u33, u34, u35, u36, u37, u38, u39, u40, u41, u42, u43, u44, u45, u46, u47, u48, u49, u50, u51, u52, u53, u54, u55, u56, u57, u58, u59, u60, u61, u62, u63, u64, u65, u66, u67, u68, u69, u70, u71, u72, u73, u74, u75, u76, u77, u78, u79, u80, u81, u82, u83, u84, u85, u86, u87, u88, u89, u90, u91, u92, u93, u94, u95, u96, u97, u98, u99, u100, u101, u102, u103, u104, u105, u106, u107, u108, u109, u110, u111, u112, u113, u114, u115, u116], []⟩ wr := wp_normal (rput_room0 M0 hap haw hR ht hn ho u1 u2 u3 u4 u5 u6 u8 u12 u13 u14 u15 u16 u17 u18 u19 u20 u21 u22 u23 u24 u25 u26 u27 u28 u29 u30 u31 u32 u33 u34 u35 u36 u37 u38 u39 u40 u41 u42 u43 u44 u45 u46 u47 u48 u49 u50 u51 u52 u53 u54 u55 u56 u57 u58 u59 u60 u61 u62 u63 u64 u65 u66 u67 u68 u69 u70 u71 u72 u73 u74 u75 u76 u77 u78 u79 u80 u81 u82 u83 u84 u85 u86 u87 u88 u89 u90 u91 u92 u93 u94 u95 u96 u97 u98 u99 u100 u101 u102 u103 u104 u105 u106 u107 u108 u109 u110 u111 u112 u113 u114 u115 u116 _ hQ)
end Kc
end Go.Proofs.Ytkamjpjmdibfgaa
