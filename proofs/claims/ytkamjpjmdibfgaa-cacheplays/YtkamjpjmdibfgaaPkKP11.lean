import Derived.Test.YtkamjpjmdibfgaaPkKP8
import Derived.Deep.LoopGhost
import Derived.Test.YtkamjpjmdibfgaaPkKP10
/- Layer 15, the program: Keys -/
namespace Go.Proofs.Ytkamjpjmdibfgaa
open Go.RowKit Go.Maps
namespace Kc
theorem make_T (w : World) (c : Nat) (hc : c ≤ 17592186044416) :
    ∃ w', (Instr.makeSlice 59 (.int .i64 0) (.int .i64 (c : Int))).run Try.prog w = .ok (.slice (some ⟨w.heap.size, 0, none⟩) 0 c) w' ∧ Own w' w.heap.size (.slice (some ⟨w.heap.size, 0, none⟩) 0 c) (svs []) ∧ Below w.heap.size w w' := by
  obtain ⟨i0, hi, hz0, hz1, hz2⟩ := info_parts infoS
  obtain ⟨w', h1, h2, h3⟩ := run_make_own (P := Try.prog) w w.heap.size 59 9 i0 (.string ⟨#[]⟩) 1 Try.underlying59 hi hz0 hz1 .i64 .i64 c (by rw [hz2]; omega) (by rw [maxLen]; omega) (Nat.le_refl _)
  refine ⟨w', h1, ?_, Below.ofGrown (v := .slice none 0 0) h3 (fun k hk => by cases hk) (Nat.le_refl _)⟩
  rcases h2.2 with ⟨h, _⟩ | ⟨g, cap, cur, hv, hg, hh, _, hm, hs, _⟩
  · cases h
  · injection hv with e1 e2 e3
    injection e1 with e1
    injection e1 with e1
    subst e1 e3
    exact .inr ⟨_, _, rfl, Nat.le_refl _, by simp [svs], hm, fun j v hj => by simp [svs] at hj, there_of_row hh 0 _ (by rw [hs]; omega), lt_of_heap hh⟩
def keys (L : List En) : List (List UInt8) := L.map En.k
set_option maxRecDepth 100000 in
set_option maxHeartbeats 2000000 in
theorem keys_any {w : World} {a : Nat} {g : Option Nat} {B c : Nat} {L : List En} {f m o : Nat} (h : Ch w a g B c L f m o) (hl : L.length ≤ 1000000) :
    Calls Try.prog 25 #[.pointer (some ⟨a, 0, none⟩)] w fun r w' => ∃ v, r = .returned v ∧ Own w' w.heap.size v (svs (keys L)) ∧ Below w.heap.size w w' := by
  have c4 := h.li.cs.2.2.2.2.1
  obtain ⟨n, hn⟩ : ∃ n, L.length = n := ⟨_, rfl⟩
  rw [hn] at c4
  obtain ⟨w1, r1, O1, B1⟩ := make_T w n (by omega)
  have c1 := (B1.cell (p := ⟨a, 1, none⟩) (h.li.lt a (fp_a _ _))).trans h.li.cs.2.1
  have O1 := hid O1
  have B1 := hid B1
  have HS := hid h.li.seg
  have HL := hid hl
  obtain ⟨P0, hP0⟩ : ∃ P0, pv (hd L none) = P0 := ⟨_, rfl⟩
  rw [hP0] at c1
  have HP0 := hid hP0
  obtain ⟨q, hq⟩ : ∃ q, w.heap.size = q := ⟨_, rfl⟩
  rw [hq] at O1 B1
  have HQ := hid hq
  clear hP0 h hn hl
  go_enter Try.func25, Try.ntmps25
  go_wp2_with (go_at_call 30; refine (orNone_some _ _).mono ?_; rintro r w9 ⟨rfl, hw9⟩; replace hw9 := hw9.symm; subst hw9)
  go_loopg [3, 4] L.length (fun k v p wr => ∃ X Y, k = Y.length ∧ p = pv (hd Y none) ∧ Hid (L = X ++ Y) ∧ Hid (Own wr q v (svs (keys X))) ∧ Hid (Below q w wr))
  case atStart => exact ⟨[], L, rfl, HP0.out.symm, rfl, O1, B1⟩
  case round =>
    obtain ⟨X, Y, hk, rfl, hL, O, Bw⟩ := hrel
    cases Y with
    | nil =>
      rw [show pv (hd [] none) = .pointer none from rfl]
      go_wp2
      go_ret
      have := hL.out
      rw [List.append_nil] at this
      rw [this]
      exact ⟨_, rfl, by rw [HQ.out]; exact O.out, by rw [HQ.out]; exact Bw.out⟩
    | cons y Y =>
      rw [show pv (hd (y :: Y) none) = .pointer (some ⟨y.b, 0, none⟩) from rfl]
      have S : Seg w none (X ++ y :: Y) none := by rw [← hL.out]; exact HS.out
      have P : pl w y (ls none X) (hd Y none) := (seg_append.1 S).2.1
      have Pw : pl wr y (ls none X) (hd Y none) := (Bw.out.block y.b (by have := lt_of_heap P; have := HQ.out; omega)).trans P
      obtain ⟨p0, _, _, _, p4⟩ := pl_c Pw
      have hXl : X.length ≤ 1000000 := by have := HL.out; rw [hL.out] at this; simp at this; omega
      obtain ⟨v', w2, hap, O2, B2⟩ := append_text wr q _ (keys X) y.k #[.string ⟨y.k.toArray⟩] rfl O.out (by unfold keys; simp; omega) (by have := Bw.out.size; have := HQ.out; omega)
      have O2 := hid O2
      have B2 := hid (Bw.out.trans B2)
      have hk' : Hid (Y.length < gk) := by show _ < _; rw [hk]; simp
      have hL' : Hid (L = (X ++ [y]) ++ Y) := by show _ = _; rw [hL.out]; simp
      have hO2 : Hid (Own w2 q v' (svs (keys (X ++ [y])))) := by
        have := O2.out
        show Own _ _ _ _
        rw [show keys (X ++ [y]) = keys X ++ [y.k] by simp [keys]]
        exact this
      obtain ⟨P1, hP1⟩ : ∃ P1, pv (hd Y none) = P1 := ⟨_, rfl⟩
      rw [hP1] at p4
      have HP1 := hid hP1
      have p4' : w2.cell? ⟨y.b, 4, none⟩ = some P1 := by
        rw [← hP1]
        exact (pl_c (show pl w2 y (ls none X) (hd Y none) from (B2.out.block y.b (by have := lt_of_heap P; have := HQ.out; omega)).trans P)).2.2.2.2
      clear hk S P Pw hXl hP1
      generalize y.k = yk at *
      go_wp2_with (at_builtin; go_must (refine Lib.wpList_append_run _ rfl _ _ 59 59 rfl _ _ rfl rfl _ _ hap ?_))
      go_roundg Y.length
      case measure => exact hk'.out
      case rel => exact ⟨X ++ [y], Y, rfl, HP1.out.symm, hL', hO2, B2⟩
end Kc
end Go.Proofs.Ytkamjpjmdibfgaa

/- Layer 15, the law's side: one cache, two caches -/
namespace Go.Proofs.Ytkamjpjmdibfgaa
open Go.RowKit Go.Maps
namespace Kc
/-- what a call has done -/
structure Op (w : World) (a : Nat) (g : Option Nat) (B c : Nat) (L : List En) (w' : World) (g' : Option Nat) (L' : List En) (f' m' o' : Nat) : Prop where
  ch : Ch w' a g' B (c + 1) L' f' m' o'
  kp : Keep (Fg a g L) w w'
  fg : ∀ k, Fg a g' L' k → Fg a g L k ∨ w.heap.size ≤ k
theorem fg_of {a : Nat} {g g' : Option Nat} {L L' : List En} {n : Nat} (hg : g' = g ∨ ∃ q, g' = some q ∧ n ≤ q) (hL : ∀ e ∈ L', e ∈ L ∨ n ≤ e.b) : ∀ k, Fg a g' L' k → Fg a g L k ∨ n ≤ k := by
  rintro k (h | h)
  · rcases List.mem_cons.1 h with rfl | h
    · exact .inl (.inl (fp_a _ _))
    · obtain ⟨e, he, rfl⟩ := List.mem_map.1 h
      rcases hL e he with h | h
      · exact .inl (.inl (fp_b h))
      · exact .inr h
  · rcases hg with rfl | ⟨q, rfl, hq⟩
    · exact .inl (.inr h)
    · obtain rfl := Option.some.inj h
      exact .inr hq
theorem get_some' {w : World} {a : Nat} {g : Option Nat} {B c : Nat} {L : List En} {f m o : Nat} (h : Ch w a g B c L f m o) (hc : c ≤ 1000000000000) (k : List UInt8) (hk : k.length ≤ 9223372036854775807) {e : En} (hf : fnd k L = some e) :
    Calls Try.prog 11 #[.pointer (some ⟨a, 0, none⟩), .string ⟨k.toArray⟩] w fun r w' => r = .returned (.tuple #[.string ⟨e.v.toArray⟩, .bool true]) ∧ Op w a g B c L w' g (e :: wo k L) (f + 1) m o :=
  (get_some h hc k hk hf).mono fun _ _ ⟨h1, h2, h3⟩ => ⟨h1, h2, h3, fg_of (.inl rfl) fun x hx => .inl (by
    rcases List.mem_cons.1 hx with rfl | hx
    · exact (fnd_mem hf).1
    · exact (wo_sub _ _).mem hx)⟩
theorem get_none' {w : World} {a : Nat} {g : Option Nat} {B c : Nat} {L : List En} {f m o : Nat} (h : Ch w a g B c L f m o) (hc : c ≤ 1000000000000) (k : List UInt8) (hk : k.length ≤ 9223372036854775807) (hf : fnd k L = none) :
    Calls Try.prog 11 #[.pointer (some ⟨a, 0, none⟩), .string ⟨k.toArray⟩] w fun r w' => r = .returned (.tuple #[.string ⟨#[]⟩, .bool false]) ∧ Op w a g B c L w' g L f (m + 1) o :=
  (get_none h hc k hk hf).mono fun _ _ ⟨h1, h2, h3⟩ => ⟨h1, h2, h3, fun _ hk => .inl hk⟩
/-- what Put leaves -/
def putL (B : Nat) (k v : List UInt8) (L : List En) (b : Nat) : List En := ⟨b, k, v, pin k L⟩ :: room B (k.length + v.length) (wo k L)
theorem put_ok' {w : World} {a : Nat} {g : Option Nat} {B c : Nat} {L : List En} {f m o : Nat} (h : Ch w a g B c L f m o) (hc : c ≤ 1000000000000) (k v : List UInt8) (hk : k.length ≤ 2305843009213693952) (hv : v.length ≤ 2305843009213693952) (hB : k.length + v.length + pnd (wo k L) ≤ B) :
    Calls Try.prog 10 #[.pointer (some ⟨a, 0, none⟩), .string ⟨k.toArray⟩, .string ⟨v.toArray⟩] w fun r w' => r = .returned (.int .i64 0) ∧ ∃ b g' o', Op w a g B c L w' g' (putL B k v L b) f m o' ∧ o' + (room B (k.length + v.length) (wo k L)).length = o + (wo k L).length := by
  unfold putL pin
  cases hf : fnd k L with
  | none =>
    refine (put_none_ok h hc k v hk hv hf rfl hB).mono ?_
    rintro r w' ⟨rfl, b, g', o', hb, h1, h2, h3, h4⟩
    refine ⟨rfl, b, g', o', ⟨h1, h3, fg_of h4 fun x hx => ?_⟩, h2⟩
    rcases List.mem_cons.1 hx with rfl | hx
    · exact .inr hb
    · exact .inl ((wo_sub _ _).mem ((room_sub _ _ _).mem hx))
  | some e =>
    refine (put_some_ok h hc k v hk hv hf rfl hB).mono ?_
    rintro r w' ⟨rfl, b, g', o', hb, h1, h2, h3, h4⟩
    refine ⟨rfl, b, g', o', ⟨h1, h3, fg_of h4 fun x hx => ?_⟩, h2⟩
    rcases List.mem_cons.1 hx with rfl | hx
    · exact .inr hb
    · exact .inl ((wo_sub _ _).mem ((room_sub _ _ _).mem hx))
theorem put_long' {w : World} {a : Nat} {g : Option Nat} {B c : Nat} {L : List En} {f m o : Nat} (h : Ch w a g B c L f m o) (k v : List UInt8) (hk : k.length ≤ 2305843009213693952) (hv : v.length ≤ 2305843009213693952) (hB : B < k.length + v.length + pnd (wo k L)) :
    Calls Try.prog 10 #[.pointer (some ⟨a, 0, none⟩), .string ⟨k.toArray⟩, .string ⟨v.toArray⟩] w fun r w' => r = .returned (.int .i64 151) ∧ Below w.heap.size w w' := by
  cases hf : fnd k L with
  | none => exact put_none_long h k v hk hv hf rfl hB
  | some e => exact put_some_long h k v hk hv hf rfl hB
/-- one cache, made behind w0 -/
structure Cs (w0 w : World) (a : Nat) (g : Option Nat) (B c : Nat) (L : List En) (f m o : Nat) : Prop where
  ch : Ch w a g B c L f m o
  ge : ∀ k, Fg a g L k → w0.heap.size ≤ k
  bl : Below w0.heap.size w0 w
theorem Cs.op {w0 w w' : World} {a : Nat} {g g' : Option Nat} {B c : Nat} {L L' : List En} {f m o f' m' o' : Nat} (h : Cs w0 w a g B c L f m o) (k : Op w a g B c L w' g' L' f' m' o') : Cs w0 w' a g' B (c + 1) L' f' m' o' := by
  have hs := h.bl.size
  refine ⟨k.ch, fun x hx => ?_, ⟨k.kp.os.trans h.bl.os, k.kp.tape.trans h.bl.tape, k.kp.output.trans h.bl.output, Nat.le_trans hs k.kp.size, fun x hx => (k.kp.block x (by omega) fun hf => ?_).trans (h.bl.block x hx)⟩⟩
  · rcases k.fg x hx with h1 | h1
    · exact h.ge x h1
    · omega
  · have := h.ge x hf
    omega
theorem Cs.below {w0 w w' : World} {a : Nat} {g : Option Nat} {B c : Nat} {L : List En} {f m o : Nat} (h : Cs w0 w a g B c L f m o) (hb : Below w.heap.size w w') : Cs w0 w' a g B c L f m o :=
  ⟨h.ch.below hb, h.ge, h.bl.trans (hb.mono h.bl.size)⟩
theorem Cs.drew {w0 w : World} {a : Nat} {g : Option Nat} {B c : Nat} {L : List En} {f m o : Nat} (h : Cs w0 w a g B c L f m o) : Cs w0 w.drew a g B c L f m o := ⟨h.ch.drew, h.ge, h.bl.drew⟩
theorem Cs.mono {w0 w : World} {a : Nat} {g : Option Nat} {B c c' : Nat} {L : List En} {f m o : Nat} (h : Cs w0 w a g B c L f m o) (hc : c ≤ c') : Cs w0 w a g B c' L f m o := ⟨h.ch.mono hc, h.ge, h.bl⟩
theorem fg_lt {w : World} {a : Nat} {g : Option Nat} {B c : Nat} {L : List En} {f m o : Nat} (h : Ch w a g B c L f m o) : ∀ k, Fg a g L k → k < w.heap.size := by
  rintro x (hx | hx)
  · exact h.li.lt x hx
  · rcases h.tb with ⟨hg, _⟩ | ⟨b0, D0, h0, h1, _⟩
    · rw [hg] at hx; cases hx
    · rw [h0] at hx
      have := h1.lt
      have := Option.some.inj hx
      omega
theorem Ch.keep {S : Nat → Prop} {w w' : World} {a : Nat} {g : Option Nat} {B c : Nat} {L : List En} {f m o : Nat} (h : Ch w a g B c L f m o) (hk : Keep S w w') (hS : ∀ k, Fg a g L k → ¬ S k) : Ch w' a g B c L f m o := by
  refine ⟨h.li.keep hk fun k hf => hS k (.inl hf), ?_, h.gn, h.uq, h.bu, h.tt, h.cb, h.pm⟩
  rcases h.tb with t | ⟨b0, D0, h0, h1, h2⟩
  · exact .inl t
  · have hl := h1.lt
    obtain ⟨es, cl, x1, x2⟩ := h1
    exact .inr ⟨b0, D0, h0, ⟨es, cl, (hk.block b0 hl (hS b0 (.inr h0))).trans x1, x2⟩, h2⟩
/-- two caches -/
structure Cd (w0 w : World) (a : Nat) (g : Option Nat) (B c : Nat) (L : List En) (f m o : Nat) (a2 : Nat) (g2 : Option Nat) (B2 c2 : Nat) (L2 : List En) (f2 m2 o2 : Nat) : Prop where
  one : Cs w0 w a g B c L f m o
  two : Cs w0 w a2 g2 B2 c2 L2 f2 m2 o2
  dj : ∀ k, Fg a g L k → ¬ Fg a2 g2 L2 k
theorem Cd.symm {w0 w : World} {a : Nat} {g : Option Nat} {B c : Nat} {L : List En} {f m o : Nat} {a2 : Nat} {g2 : Option Nat} {B2 c2 : Nat} {L2 : List En} {f2 m2 o2 : Nat} (h : Cd w0 w a g B c L f m o a2 g2 B2 c2 L2 f2 m2 o2) : Cd w0 w a2 g2 B2 c2 L2 f2 m2 o2 a g B c L f m o :=
  ⟨h.two, h.one, fun k h1 h2 => h.dj k h2 h1⟩
theorem Cd.op {w0 w w' : World} {a : Nat} {g g' : Option Nat} {B c : Nat} {L L' : List En} {f m o f' m' o' : Nat} {a2 : Nat} {g2 : Option Nat} {B2 c2 : Nat} {L2 : List En} {f2 m2 o2 : Nat} (h : Cd w0 w a g B c L f m o a2 g2 B2 c2 L2 f2 m2 o2) (k : Op w a g B c L w' g' L' f' m' o') : Cd w0 w' a g' B (c + 1) L' f' m' o' a2 g2 B2 c2 L2 f2 m2 o2 := by
  have h1 := h.one.op k
  refine ⟨h1, ⟨h.two.ch.keep k.kp fun x hx hy => h.dj x hy hx, h.two.ge, h1.bl⟩, fun x hx hy => ?_⟩
  rcases k.fg x hx with h3 | h3
  · exact h.dj x h3 hy
  · have := fg_lt h.two.ch x hy
    omega
theorem Cd.below {w0 w w' : World} {a : Nat} {g : Option Nat} {B c : Nat} {L : List En} {f m o : Nat} {a2 : Nat} {g2 : Option Nat} {B2 c2 : Nat} {L2 : List En} {f2 m2 o2 : Nat} (h : Cd w0 w a g B c L f m o a2 g2 B2 c2 L2 f2 m2 o2) (hb : Below w.heap.size w w') : Cd w0 w' a g B c L f m o a2 g2 B2 c2 L2 f2 m2 o2 := ⟨h.one.below hb, h.two.below hb, h.dj⟩
theorem Cs.new {w0 w w' : World} (hw : Below w0.heap.size w0 w) {B : Nat} (h : Ch w' w.heap.size none B 0 [] 0 0 0) (hb : Below w.heap.size w w') : Cs w0 w' w.heap.size none B 0 [] 0 0 0 := by
  refine ⟨h, ?_, hw.trans (hb.mono hw.size)⟩
  rintro k (hk | hk)
  · rcases List.mem_cons.1 hk with rfl | hk
    · exact hw.size
    · cases hk
  · cases hk
theorem Cd.new {w0 w w' : World} {a : Nat} {g : Option Nat} {B c : Nat} {L : List En} {f m o : Nat} (h : Cs w0 w a g B c L f m o) {B2 : Nat} (h2 : Ch w' w.heap.size none B2 0 [] 0 0 0) (hb : Below w.heap.size w w') : Cd w0 w' a g B c L f m o w.heap.size none B2 0 [] 0 0 0 := by
  refine ⟨h.below hb, Cs.new h.bl h2 hb, ?_⟩
  rintro k h1 (hk | hk)
  · rcases List.mem_cons.1 hk with rfl | hk
    · have := fg_lt h.ch _ h1
      omega
    · cases hk
  · cases hk
end Kc
end Go.Proofs.Ytkamjpjmdibfgaa
