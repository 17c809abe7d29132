import Derived.Test.YtkamjpjmdibfgaaPkKP6
import Derived.Deep.LoopGhost
/- Layer 15, the program: makeRoom -/
namespace Go.Proofs.Ytkamjpjmdibfgaa
open Go.RowKit Go.Maps
namespace Kc
theorem Ch.o1 {w : World} {a : Nat} {g : Option Nat} {B c : Nat} {L : List En} {f m o : Nat} (h : Ch w a g B c L f m o) (hc : f + m + (o + 1) + L.length ≤ c) : Ch (w.setCell ⟨a, 9, none⟩ (.int .i64 ((o + 1 : Nat) : Int))) a g B c L f m (o + 1) :=
  ⟨h.li.s9 _, tb_set h.li h.tb _ _, h.gn, h.uq, h.bu, h.tt, hc, h.pm⟩
theorem Ch.drew {w : World} {a : Nat} {g : Option Nat} {B c : Nat} {L : List En} {f m o : Nat} (h : Ch w a g B c L f m o) : Ch w.drew a g B c L f m o := ⟨h.li.drew, h.tb, h.gn, h.uq, h.bu, h.tt, h.cb, h.pm⟩
theorem Ch.below {w w' : World} {a : Nat} {g : Option Nat} {B c : Nat} {L : List En} {f m o : Nat} (h : Ch w a g B c L f m o) (hb : Below w.heap.size w w') : Ch w' a g B c L f m o := ⟨h.li.below hb, tb_below h.tb hb, h.gn, h.uq, h.bu, h.tt, h.cb, h.pm⟩
theorem fg_sub {a : Nat} {g : Option Nat} {L M : List En} (h : M.Sublist L) {k : Nat} (hk : Fg a g M k) : Fg a g L k := by
  rcases hk with hk | hk
  · refine .inl ?_
    rcases List.mem_cons.1 hk with rfl | hk
    · exact fp_a _ _
    · exact List.mem_cons_of_mem _ ((h.map En.b).mem hk)
  · exact .inr hk
/-- while room is made -/
structure Mr (w : World) (a : Nat) (g : Option Nat) (B c n : Nat) (L : List En) (f m o : Nat) (X Y : List En) (o' : Nat) (w' : World) : Prop where
  ch : Ch w' a g B c (X ++ Y) f m o'
  rm : evr B n (tot (X ++ Y)) X ++ Y = room B n L
  cn : o' + (X ++ Y).length = o + L.length
  kp : Keep (Fg a g L) w w'
  sb : (X ++ Y).Sublist L
theorem Mr.drew {w w' : World} {a : Nat} {g : Option Nat} {B c n : Nat} {L : List En} {f m o : Nat} {X Y : List En} {o' : Nat} (h : Mr w a g B c n L f m o X Y o' w') : Mr w a g B c n L f m o X Y o' w'.drew := ⟨h.ch.drew, h.rm, h.cn, keep_drew h.kp, h.sb⟩
theorem Mr.pin {w w' : World} {a : Nat} {g : Option Nat} {B c n : Nat} {L : List En} {f m o : Nat} {X Y : List En} {x : En} {o' : Nat} (h : Mr w a g B c n L f m o (X ++ [x]) Y o' w') (h1 : ¬ tot (X ++ [x] ++ Y) + n ≤ B) (h2 : x.p ≠ 0) : Mr w a g B c n L f m o X (x :: Y) o' w' := by
  have e : X ++ [x] ++ Y = X ++ x :: Y := by simp
  refine ⟨e ▸ h.ch, ?_, e ▸ h.cn, h.kp, e ▸ h.sb⟩
  have := h.rm
  rw [evr_pin h1 h2] at this
  rw [e] at this
  simpa using this
theorem Mr.out {w w' w'' : World} {a : Nat} {g : Option Nat} {B c n : Nat} {L : List En} {f m o : Nat} {X Y : List En} {x : En} {o' : Nat} (h : Mr w a g B c n L f m o (X ++ [x]) Y o' w') (h1 : ¬ tot (X ++ [x] ++ Y) + n ≤ B) (h2 : x.p = 0) (hc : Ch w'' a g B c (X ++ Y) f m o') (hk : Keep (Fg a g (X ++ x :: Y)) w' w'') :
    Mr w a g B c n L f m o X Y (o' + 1) (w''.setCell ⟨a, 9, none⟩ (.int .i64 ((o' + 1 : Nat) : Int))) := by
  have e : X ++ [x] ++ Y = X ++ x :: Y := by simp
  have hcb := h.ch.cb
  have hcn := h.cn
  rw [e] at hcb hcn
  simp at hcb hcn
  refine ⟨hc.o1 (by simp; omega), ?_, by simp; omega, ?_, ?_⟩
  · have := h.rm
    rw [evr_out h1 h2] at this
    rw [← this]
    congr 2
    simp
    omega
  · refine keep_set (keep_trans h.kp (keep_mono hk fun k hk => fg_sub (e ▸ h.sb) hk)) (.inl (fp_a _ _)) _ _
  · refine List.Sublist.trans ?_ h.sb
    rw [e]
    exact List.Sublist.append_left (List.sublist_cons_self _ _) _
theorem Mr.fit {w w' : World} {a : Nat} {g : Option Nat} {B c n : Nat} {L : List En} {f m o : Nat} {X Y : List En} {o' : Nat} (h : Mr w a g B c n L f m o X Y o' w') (h1 : X = [] ∨ tot (X ++ Y) + n ≤ B) : Ch w' a g B c (room B n L) f m o' ∧ o' + (room B n L).length = o + L.length ∧ Keep (Fg a g L) w w' := by
  have e : X ++ Y = room B n L := by
    rcases h1 with rfl | h1
    · exact h.rm
    · have := h.rm
      rwa [evr_fit h1] at this
  rw [← e]
  exact ⟨h.ch, h.cn, h.kp⟩
theorem Mr.last {w w' : World} {a : Nat} {g : Option Nat} {B c n : Nat} {L : List En} {f m o : Nat} {X Y : List En} {x : En} {o' : Nat} (h : Mr w a g B c n L f m o (X ++ [x]) Y o' w') : pl w' x (ls none X) (hd Y none) := by
  have e : X ++ [x] ++ Y = X ++ x :: Y := by simp
  have := h.ch.li.seg
  rw [e] at this
  exact (seg_append.1 this).2.1
set_option maxRecDepth 100000 in
set_option maxHeartbeats 4000000 in
theorem makeRoom_any {w : World} {a : Nat} {g : Option Nat} {B c : Nat} {L : List En} {f m o : Nat} (h : Ch w a g B c L f m o) (hc : c ≤ 1000000000000) (n : Nat) (hn : n ≤ 16777216) :
    Calls Try.prog 35 #[.pointer (some ⟨a, 0, none⟩), .int .i64 (n : Int)] w fun r w' => r = .returned (.tuple #[]) ∧ ∃ o', Ch w' a g B c (room B n L) f m o' ∧ o' + (room B n L).length = o + L.length ∧ Keep (Fg a g L) w w' := by
  have c2 := h.li.cs.2.2.1
  have hb := h.bu
  have M0 : Hid (Mr w a g B c n L f m o L [] o w) := by
    refine ⟨by rw [List.append_nil]; exact h, by rw [List.append_nil, List.append_nil]; rfl, by simp, keep_refl _ _, by rw [List.append_nil]; exact List.Sublist.refl _⟩
  clear h
  obtain ⟨P0, hP0⟩ : ∃ P0, pv (ls none L) = P0 := ⟨_, rfl⟩
  rw [hP0] at c2
  have HP0 := hid hP0
  clear hP0
  go_enter Try.func35, Try.ntmps35
  go_wp2
  go_loopg [4, 5] L.length (fun k p _ wr => ∃ X Y o', k = X.length ∧ p = pv (ls none X) ∧ Hid (Mr w a g B c n L f m o X Y o' wr))
  case atStart => exact ⟨L, [], o, rfl, HP0.out.symm, M0⟩
  case round =>
    obtain ⟨X, Y, o', hk, rfl, M⟩ := hrel
    rcases snoc_cases X with rfl | ⟨X, x, rfl⟩
    · rw [show pv (ls none []) = .pointer none from rfl]
      go_wp2
      go_region
      go_wp2
      go_end0
      obtain ⟨h1, h2, h3⟩ := M.out.fit (.inl rfl)
      exact ⟨rfl, o', h1.drew, h2, keep_drew h3⟩
    · rw [ls_snoc, show pv (some x.b) = .pointer (some ⟨x.b, 0, none⟩) from rfl]
      have P := M.out.last
      obtain ⟨_, _, p2, p3, _⟩ := pl_c P
      have d0 := M.out.ch.li.cs.1
      have d5 := M.out.ch.li.cs.2.2.2.2.2.1
      have tt := M.out.ch.tt
      obtain ⟨t, ht⟩ : ∃ t, tot (X ++ [x] ++ Y) = t := ⟨_, rfl⟩
      rw [ht] at d5 tt
      obtain ⟨s, hs⟩ : ∃ s, t + n = s := ⟨_, rfl⟩
      have e1 : IntKind.i64.wrap ((t : Int) + (n : Int)) = (s : Int) := by rw [IntKind.wrap_i64]; omega
      by_cases hf : s ≤ B
      · have e2 : ¬ (B : Int) < (s : Int) := by omega
        have e3 : decide ((B : Int) < (s : Int)) = false := decide_eq_false e2
        have hx : Hid (tot (X ++ [x] ++ Y) + n ≤ B) := by show _ ≤ _; omega
        clear ht hs hf tt P
        generalize x.b = xb at *
        go_wp2
        go_region
        go_wp2
        go_end0
        obtain ⟨h1, h2, h3⟩ := M.out.fit (.inr hx.out)
        exact ⟨rfl, o', h1.drew, h2, keep_drew h3⟩
      · have e2 : (B : Int) < (s : Int) := by omega
        have e3 : decide ((B : Int) < (s : Int)) = true := decide_eq_true e2
        have hx : Hid (¬ tot (X ++ [x] ++ Y) + n ≤ B) := by show ¬ _; omega
        have hxk : Hid (X.length < gk) := by show _ < _; rw [hk]; simp
        have ee : X ++ [x] ++ Y = X ++ x :: Y := by simp
        have hcb := M.out.ch.cb
        clear hk ht hs hf tt P
        by_cases hp : x.p = 0
        · have i1 := leave_any (X := X) (Y := Y) (e := x) (w := wr.drew) (by rw [← ee]; exact M.out.ch.drew) hc
          have hp1 : (x.p : Int) = 0 := by omega
          have hp2 : ((x.p : Int) == 0) = true := by rw [hp1]; rfl
          have HP := hid hp
          have cb' : Hid (o' ≤ c) := by show o' ≤ c; omega
          clear ee hcb hp
          go_wp2
          go_region
          go_wp2_with (go_at_call 34; refine i1.mono ?_; rintro r w1 ⟨rfl, C1, K1⟩; have y9 := C1.li.cs.2.2.2.2.2.2.2.2.2; have f9 := C1.li.fz 9; have e9 : IntKind.i64.wrap ((o' : Int) + 1) = ((o' + 1 : Nat) : Int) := (by rw [IntKind.wrap_i64]; have := cb'.out; omega))
          go_roundg X.length
          case measure => exact hxk.out
          case rel => exact ⟨X, Y, o' + 1, rfl, rfl, M.out.out hx.out HP.out C1 (⟨K1.os, K1.tape, K1.output, K1.size, K1.block⟩)⟩
        · have hp1 : ¬ (x.p : Int) = 0 := by omega
          have hp2 : ((x.p : Int) == 0) = false := by rw [beq_eq_false_iff_ne]; exact hp1
          have HP := hid hp
          clear ee hcb hp
          go_wp2
          go_region
          go_wp2
          go_roundg X.length
          case measure => exact hxk.out
          case rel => exact ⟨X, x :: Y, o', rfl, rfl, M.out.drew.pin hx.out HP.out⟩
end Kc
end Go.Proofs.Ytkamjpjmdibfgaa
