import Derived.Test.YtiehafkbkbeijaaPkKP10
import Derived.Test.YtiehafkbkbeijaaPkKP11
/- Layer 15, the law's side: one cache, two caches -/
namespace Go.Proofs.Ytiehafkbkbeijaa
open Go.RowKit Go.Maps
namespace Kc
/-- what a call has done -/
structure Op (w : World) (a : Nat) (g : Option Nat) (B c : Nat) (L : List En) (w' : World) (g' : Option Nat) (L' : List En) (f' m' o' : Nat) : Prop where
  ch : Ch w' a g' B (c + 1) L' f' m' o'
  kp : Keep (Fg a g L) w w'
  fg : ∀ k, Fg a g' L' k → Fg a g L k ∨ w.heap.size ≤ k
theorem fg_of {a : Nat} {g g' : Option Nat} {L L' : List En} {n : Nat} (hg : g' = g ∨ ∃ q, g' = some q ∧ n ≤ q) (hL : ∀ e ∈ L', e ∈ L ∨ n ≤ e.b) : ∀ k, Fg a g' L' k → Fg a g L k ∨ n ≤ k := by
  rintro k (h | h)
  · rcases List.mem_cons.1 h with rfl | h
    · exact .inl (.inl (fp_a _ _))
    · obtain ⟨e, he, rfl⟩ := List.mem_map.1 h
      rcases hL e he with h | h
      · exact .inl (.inl (fp_b h))
      · exact .inr h
  · rcases hg with rfl | ⟨q, rfl, hq⟩
    · exact .inl (.inr h)
    · obtain rfl := Option.some.inj h
      exact .inr hq
theorem get_some' {w : World} {a : Nat} {g : Option Nat} {B c : Nat} {L : List En} {f m o : Nat} (h : Ch w a g B c L f m o) (hc : c ≤ 1000000000000) (k : List UInt8) (hk : k.length ≤ 9223372036854775807) {e : En} (hf : fnd k L = some e) :
    Calls Try.prog 9 #[.pointer (some ⟨a, 0, none⟩), .string ⟨k.toArray⟩] w fun r w' => r = .returned (.tuple #[.string ⟨e.v.toArray⟩, .bool true]) ∧ Op w a g B c L w' g (e :: wo k L) (f + 1) m o :=
  (get_some h hc k hk hf).mono fun _ _ ⟨h1, h2, h3⟩ => ⟨h1, h2, h3, fg_of (.inl rfl) fun x hx => .inl (by
    rcases List.mem_cons.1 hx with rfl | hx
    · exact (fnd_mem hf).1
    · exact (wo_sub _ _).mem hx)⟩
theorem get_none' {w : World} {a : Nat} {g : Option Nat} {B c : Nat} {L : List En} {f m o : Nat} (h : Ch w a g B c L f m o) (hc : c ≤ 1000000000000) (k : List UInt8) (hk : k.length ≤ 9223372036854775807) (hf : fnd k L = none) :
    Calls Try.prog 9 #[.pointer (some ⟨a, 0, none⟩), .string ⟨k.toArray⟩] w fun r w' => r = .returned (.tuple #[.string ⟨#[]⟩, .bool false]) ∧ Op w a g B c L w' g L f (m + 1) o :=
  (get_none h hc k hk hf).mono fun _ _ ⟨h1, h2, h3⟩ => ⟨h1, h2, h3, fun _ hk => .inl hk⟩
/-- what Put leaves -/
def putL (B : Nat) (k v : List UInt8) (L : List En) (b : Nat) : List En := ⟨b, k, v, pin k L⟩ :: room B (k.length + v.length) (wo k L)
theorem put_ok' {w : World} {a : Nat} {g : Option Nat} {B c : Nat} {L : List En} {f m o : Nat} (h : Ch w a g B c L f m o) (hc : c ≤ 1000000000000) (k v : List UInt8) (hk : k.length ≤ 2305843009213693952) (hv : v.length ≤ 2305843009213693952) (hB : k.length + v.length + pnd (wo k L) ≤ B) :
    Calls Try.prog 10 #[.pointer (some ⟨a, 0, none⟩), .string ⟨k.toArray⟩, .string ⟨v.toArray⟩] w fun r w' => r = .returned (.int .i64 0) ∧ ∃ b g' o', Op w a g B c L w' g' (putL B k v L b) f m o' ∧ o' + (room B (k.length + v.length) (wo k L)).length = o + (wo k L).length := by
  unfold putL pin
  cases hf : fnd k L with
  | none =>
    refine (put_none_ok h hc k v hk hv hf rfl hB).mono ?_
    rintro r w' ⟨rfl, b, g', o', hb, h1, h2, h3, h4⟩
    refine ⟨rfl, b, g', o', ⟨h1, h3, fg_of h4 fun x hx => ?_⟩, h2⟩
    rcases List.mem_cons.1 hx with rfl | hx
    · exact .inr hb
    · exact .inl ((wo_sub _ _).mem ((room_sub _ _ _).mem hx))
  | some e =>
    refine (put_some_ok h hc k v hk hv hf rfl hB).mono ?_
    rintro r w' ⟨rfl, b, g', o', hb, h1, h2, h3, h4⟩
    refine ⟨rfl, b, g', o', ⟨h1, h3, fg_of h4 fun x hx => ?_⟩, h2⟩
    rcases List.mem_cons.1 hx with rfl | hx
    · exact .inr hb
    · exact .inl ((wo_sub _ _).mem ((room_sub _ _ _).mem hx))
theorem put_long' {w : World} {a : Nat} {g : Option Nat} {B c : Nat} {L : List En} {f m o : Nat} (h : Ch w a g B c L f m o) (k v : List UInt8) (hk : k.length ≤ 2305843009213693952) (hv : v.length ≤ 2305843009213693952) (hB : B < k.length + v.length + pnd (wo k L)) :
    Calls Try.prog 10 #[.pointer (some ⟨a, 0, none⟩), .string ⟨k.toArray⟩, .string ⟨v.toArray⟩] w fun r w' => r = .returned (.int .i64 151) ∧ Below w.heap.size w w' := by
  cases hf : fnd k L with
  | none => exact put_none_long h k v hk hv hf rfl hB
  | some e => exact put_some_long h k v hk hv hf rfl hB
/-- one cache, made behind w0 -/
structure Cs (w0 w : World) (a : Nat) (g : Option Nat) (B c : Nat) (L : List En) (f m o : Nat) : Prop where
  ch : Ch w a g B c L f m o
  ge : ∀ k, Fg a g L k → w0.heap.size ≤ k
  bl : Below w0.heap.size w0 w
theorem Cs.op {w0 w w' : World} {a : Nat} {g g' : Option Nat} {B c : Nat} {L L' : List En} {f m o f' m' o' : Nat} (h : Cs w0 w a g B c L f m o) (k : Op w a g B c L w' g' L' f' m' o') : Cs w0 w' a g' B (c + 1) L' f' m' o' := by
  have hs := h.bl.size
  refine ⟨k.ch, fun x hx => ?_, ⟨k.kp.os.trans h.bl.os, k.kp.tape.trans h.bl.tape, k.kp.output.trans h.bl.output, Nat.le_trans hs k.kp.size, fun x hx => (k.kp.block x (by omega) fun hf => ?_).trans (h.bl.block x hx)⟩⟩
  · rcases k.fg x hx with h1 | h1
    · exact h.ge x h1
    · omega
  · have := h.ge x hf
    omega
theorem Cs.below {w0 w w' : World} {a : Nat} {g : Option Nat} {B c : Nat} {L : List En} {f m o : Nat} (h : Cs w0 w a g B c L f m o) (hb : Below w.heap.size w w') : Cs w0 w' a g B c L f m o :=
  ⟨h.ch.below hb, h.ge, h.bl.trans (hb.mono h.bl.size)⟩
theorem Cs.drew {w0 w : World} {a : Nat} {g : Option Nat} {B c : Nat} {L : List En} {f m o : Nat} (h : Cs w0 w a g B c L f m o) : Cs w0 w.drew a g B c L f m o := ⟨h.ch.drew, h.ge, h.bl.drew⟩
theorem Cs.mono {w0 w : World} {a : Nat} {g : Option Nat} {B c c' : Nat} {L : List En} {f m o : Nat} (h : Cs w0 w a g B c L f m o) (hc : c ≤ c') : Cs w0 w a g B c' L f m o := ⟨h.ch.mono hc, h.ge, h.bl⟩
theorem fg_lt {w : World} {a : Nat} {g : Option Nat} {B c : Nat} {L : List En} {f m o : Nat} (h : Ch w a g B c L f m o) : ∀ k, Fg a g L k → k < w.heap.size := by
  rintro x (hx | hx)
  · exact h.li.lt x hx
  · rcases h.tb with ⟨hg, _⟩ | ⟨b0, D0, h0, h1, _⟩
    · rw [hg] at hx; cases hx
    · rw [h0] at hx
      have := h1.lt
      have := Option.some.inj hx
      omega
theorem Ch.keep {S : Nat → Prop} {w w' : World} {a : Nat} {g : Option Nat} {B c : Nat} {L : List En} {f m o : Nat} (h : Ch w a g B c L f m o) (hk : Keep S w w') (hS : ∀ k, Fg a g L k → ¬ S k) : Ch w' a g B c L f m o := by
  refine ⟨h.li.keep hk fun k hf => hS k (.inl hf), ?_, h.gn, h.uq, h.bu, h.tt, h.cb, h.pm⟩
  rcases h.tb with t | ⟨b0, D0, h0, h1, h2⟩
  · exact .inl t
  · have hl := h1.lt
    obtain ⟨es, cl, x1, x2⟩ := h1
    exact .inr ⟨b0, D0, h0, ⟨es, cl, (hk.block b0 hl (hS b0 (.inr h0))).trans x1, x2⟩, h2⟩
/-- two caches -/
structure Cd (w0 w : World) (a : Nat) (g : Option Nat) (B c : Nat) (L : List En) (f m o : Nat) (a2 : Nat) (g2 : Option Nat) (B2 c2 : Nat) (L2 : List En) (f2 m2 o2 : Nat) : Prop where
  one : Cs w0 w a g B c L f m o
  two : Cs w0 w a2 g2 B2 c2 L2 f2 m2 o2
  dj : ∀ k, Fg a g L k → ¬ Fg a2 g2 L2 k
theorem Cd.symm {w0 w : World} {a : Nat} {g : Option Nat} {B c : Nat} {L : List En} {f m o : Nat} {a2 : Nat} {g2 : Option Nat} {B2 c2 : Nat} {L2 : List En} {f2 m2 o2 : Nat} (h : Cd w0 w a g B c L f m o a2 g2 B2 c2 L2 f2 m2 o2) : Cd w0 w a2 g2 B2 c2 L2 f2 m2 o2 a g B c L f m o :=
  ⟨h.two, h.one, fun k h1 h2 => h.dj k h2 h1⟩
theorem Cd.op {w0 w w' : World} {a : Nat} {g g' : Option Nat} {B c : Nat} {L L' : List En} {f m o f' m' o' : Nat} {a2 : Nat} {g2 : Option Nat} {B2 c2 : Nat} {L2 : List En} {f2 m2 o2 : Nat} (h : Cd w0 w a g B c L f m o a2 g2 B2 c2 L2 f2 m2 o2) (k : Op w a g B c L w' g' L' f' m' o') : Cd w0 w' a g' B (c + 1) L' f' m' o' a2 g2 B2 c2 L2 f2 m2 o2 := by
  have h1 := h.one.op k
  refine ⟨h1, ⟨h.two.ch.keep k.kp fun x hx hy => h.dj x hy hx, h.two.ge, h1.bl⟩, fun x hx hy => ?_⟩
  rcases k.fg x hx with h3 | h3
  · exact h.dj x h3 hy
  · have := fg_lt h.two.ch x hy
    omega
theorem Cd.below {w0 w w' : World} {a : Nat} {g : Option Nat} {B c : Nat} {L : List En} {f m o : Nat} {a2 : Nat} {g2 : Option Nat} {B2 c2 : Nat} {L2 : List En} {f2 m2 o2 : Nat} (h : Cd w0 w a g B c L f m o a2 g2 B2 c2 L2 f2 m2 o2) (hb : Below w.heap.size w w') : Cd w0 w' a g B c L f m o a2 g2 B2 c2 L2 f2 m2 o2 := ⟨h.one.below hb, h.two.below hb, h.dj⟩
theorem Cs.new {w0 w w' : World} (hw : Below w0.heap.size w0 w) {B : Nat} (h : Ch w' w.heap.size none B 0 [] 0 0 0) (hb : Below w.heap.size w w') : Cs w0 w' w.heap.size none B 0 [] 0 0 0 := by
  refine ⟨h, ?_, hw.trans (hb.mono hw.size)⟩
  rintro k (hk | hk)
  · rcases List.mem_cons.1 hk with rfl | hk
    · exact hw.size
    · cases hk
  · cases hk
theorem Cd.new {w0 w w' : World} {a : Nat} {g : Option Nat} {B c : Nat} {L : List En} {f m o : Nat} (h : Cs w0 w a g B c L f m o) {B2 : Nat} (h2 : Ch w' w.heap.size none B2 0 [] 0 0 0) (hb : Below w.heap.size w w') : Cd w0 w' a g B c L f m o w.heap.size none B2 0 [] 0 0 0 := by
  refine ⟨h.below hb, Cs.new h.bl h2 hb, ?_⟩
  rintro k h1 (hk | hk)
  · rcases List.mem_cons.1 hk with rfl | hk
    · have := fg_lt h.ch _ h1
      omega
    · cases hk
  · cases hk
end Kc
end Go.Proofs.Ytiehafkbkbeijaa
