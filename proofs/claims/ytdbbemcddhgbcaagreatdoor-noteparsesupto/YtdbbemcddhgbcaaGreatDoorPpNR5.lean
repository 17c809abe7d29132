import Derived.Test.YtdbbemcddhgbcaaGreatDoorPpNR4
import Derived.Test.YtdbbemcddhgbcaaGreatDoorPpND9
/- Layer 22, the law: parses (written by genNR5.py) -/
namespace Go.Proofs.YtdbbemcddhgbcaaGreatDoor
open Go.RowKit Go.Shelf
namespace Nt
/-- what both Parse answer -/
def Pq (t : Nr) (n : Nat) (c at_ : Int) (w : World) (q : Ending) (w' : World) : Prop := (∃ a cp, q = .returned (.tuple #[nv t.O t.z t.R (.slice a n cp), .int .i64 c, .int .i64 at_]) ∧ Wz.OwnM 2 w' (.slice a n cp) n (sgs t.S) ∧ ∀ k, (Value.slice a n cp).ownBlock = some k → w.heap.size ≤ k) ∧ Below w.heap.size w w'
/-- a note that was read, in a variable -/
structure Gp (t : Nr) (n : Nat) (W w' : World) (g : Nat) (a : Option Addr) (cp : Nat) : Prop where
  x : Bx w' g t.O t.z t.R (.slice a n cp)
  o : Wz.OwnM 2 w' (.slice a n cp) n (sgs t.S)
  f : ∀ k, (Value.slice a n cp).ownBlock = some k → W.heap.size ≤ k
  g0 : W.heap.size ≤ g
  b : Below W.heap.size W w'
theorem Gp.of {t : Nr} {n g cp : Nat} {W w' : World} {a : Option Addr} {old : Array Value} {ty : TypeId} {fr : Nat × Nat} (g0 : W.heap.size ≤ g) (hx : w'.heap[g]? = some (.cells old ty fr)) (ht : ty = 26) (hf : fr = (0, 0)) (hb : Below W.heap.size W w') (o : Wz.OwnM 2 w' (.slice a n cp) n (sgs t.S)) (f : ∀ k, (Value.slice a n cp).ownBlock = some k → W.heap.size ≤ k ∧ k ≠ g) : Gp t n W (w'.setRow g #[.string t.O, .int .i64 t.z, .string t.R, .slice a n cp]) g a cp := by
  subst ht hf
  have bb := (But.refl g w').setRow #[.string t.O, .int .i64 t.z, .string t.R, .slice a n cp]
  exact ⟨setRow_heap _ _ _ _ _ _ hx, o.kept bb.size (fun k hk => bb.block k (o.lt k hk) (f k hk).2), fun k hk => (f k hk).1, g0, Below.setRow hb g0 _⟩
/-- a variable that no step of the book touches -/
structure Rb3 (ρ : Nat → Nat) (w : World) (g : Nat) (t : Nr) (v : Value) : Prop where
  x : Bx w g t.O t.z t.R v
  r : 3 ≤ ρ g
theorem Rb3.step {ρ ρ' : Nat → Nat} {w w' : World} {g : Nat} {t : Nr} {v : Value} (h : Rb3 ρ w g t v) (s : Stp (fun r => r < 3) ρ ρ' w w') : Rb3 ρ' w' g t v := ⟨h.x.kept (s.old g (lt_of_heap h.x) (by have := h.r; omega)), by rw [s.ext g (lt_of_heap h.x)]; exact h.r⟩
theorem Rb3.made {ρ : Nat → Nat} {w w' : World} {g r : Nat} {t : Nr} {v : Value} (h : Bx w' g t.O t.z t.R v) (hg : w.heap.size ≤ g) (hr : 3 ≤ r) : Rb3 (extR ρ w r) w' g t v := ⟨h, by rw [extR_new hg]; exact hr⟩
/-- three notes that were read, ahead of the book -/
structure R3 (ρ : Nat → Nat) (w : World) (gb : Nat) (E : List En) (nV wV lV : Value) (t : Nr) (n g1 g2 g3 : Nat) (a1 a2 a3 : Option Addr) (c1 c2 c3 : Nat) : Prop where
  h : Bk ρ w gb E nV wV lV
  x : Rl ρ (5 + E.length) 2 w (.slice a1 n c1) n (sgs t.S)
  y : Rl ρ (5 + (E.length + 1)) 2 w (.slice a2 n c2) n (sgs t.S)
  z : Rl ρ 3 2 w (.slice a3 n c3) n (sgs t.S)
  b1 : Rb3 ρ w g1 t (.slice a1 n c1)
  b2 : Rb3 ρ w g2 t (.slice a2 n c2)
  b3 : Rb3 ρ w g3 t (.slice a3 n c3)
theorem R3.step {ρ ρ' : Nat → Nat} {w w' : World} {gb : Nat} {E : List En} {nV wV lV : Value} {t : Nr} {n g1 g2 g3 : Nat} {a1 a2 a3 : Option Addr} {c1 c2 c3 : Nat} (h : R3 ρ w gb E nV wV lV t n g1 g2 g3 a1 a2 a3 c1 c2 c3) (s : Stp (fun _ => False) ρ ρ' w w') : R3 ρ' w' gb E nV wV lV t n g1 g2 g3 a1 a2 a3 c1 c2 c3 :=
  have s' := s.weak (T' := fun r => r < 3) fun _ e => e.elim
  ⟨h.h.step s fun _ e => e.elim, h.x.step s id, h.y.step s id, h.z.step s id, h.b1.step s', h.b2.step s', h.b3.step s'⟩
theorem R3.of {ρ : Nat → Nat} {w w1 w2 w3 : World} {gb : Nat} {E : List En} {nV wV lV : Value} {t : Nr} {n g1 g2 g3 : Nat} {a1 a2 a3 : Option Addr} {c1 c2 c3 : Nat} (h : Bk ρ w gb E nV wV lV) (p1 : Gp t n w w1 g1 a1 c1) (p2 : Gp t n w1 w2 g2 a2 c2) (p3 : Gp t n w2 w3 g3 a3 c3) : ∃ ρ', R3 ρ' w3 gb E nV wV lV t n g1 g2 g3 a1 a2 a3 c1 c2 c3 ∧ Stp (fun _ => False) ρ ρ' w w3 := by
  have s1 : Stp (fun _ => False) ρ (extR ρ w (5 + E.length)) w w1 := Stp.below p1.b _ _ _
  have x1 : Rl (extR ρ w (5 + E.length)) (5 + E.length) 2 w1 (.slice a1 n c1) n (sgs t.S) := Rl.made p1.o p1.f
  have v1 : Rb3 (extR ρ w (5 + E.length)) w1 g1 t (.slice a1 n c1) := Rb3.made p1.x p1.g0 (by omega)
  generalize extR ρ w (5 + E.length) = ρ1 at *
  have s2 : Stp (fun _ => False) ρ1 (extR ρ1 w1 (5 + (E.length + 1))) w1 w2 := Stp.below p2.b _ _ _
  have y2 : Rl (extR ρ1 w1 (5 + (E.length + 1))) (5 + (E.length + 1)) 2 w2 (.slice a2 n c2) n (sgs t.S) := Rl.made p2.o p2.f
  have v2 : Rb3 (extR ρ1 w1 (5 + (E.length + 1))) w2 g2 t (.slice a2 n c2) := Rb3.made p2.x p2.g0 (by omega)
  generalize extR ρ1 w1 (5 + (E.length + 1)) = ρ2 at *
  have s3 : Stp (fun _ => False) ρ2 (extR ρ2 w2 3) w2 w3 := Stp.below p3.b _ _ _
  have z3 : Rl (extR ρ2 w2 3) 3 2 w3 (.slice a3 n c3) n (sgs t.S) := Rl.made p3.o p3.f
  have v3 : Rb3 (extR ρ2 w2 3) w3 g3 t (.slice a3 n c3) := Rb3.made p3.x p3.g0 (by omega)
  generalize extR ρ2 w2 3 = ρ3 at *
  have s2' := s2.weak (T' := fun r => r < 3) fun _ e => e.elim
  have s3' := s3.weak (T' := fun r => r < 3) fun _ e => e.elim
  exact ⟨ρ3, ⟨h.step ((s1.trans s2).trans s3) fun _ e => e.elim, (x1.step s2 id).step s3 id, y2.step s3 id, z3, (v1.step s2').step s3', v2.step s3', v3⟩, (s1.trans s2).trans s3⟩
set_option linter.unusedSimpArgs false in
set_option maxRecDepth 100000 in
set_option maxHeartbeats 8000000 in
theorem parses22_gen {ρ : Nat → Nat} {w : World} {gb : Nat} {E : List En} {nV wV lV : Value} (h : Bk ρ w gb E nV wV lV) (hE : E.length < 98) (s : ByteArray) (t : Nr) (n : Nat) (hn : t.S.length = n) (hn16 : n ≤ 16) (c at_ : Int)
    (i1 : ∀ w', Below w.heap.size w w' → Calls Tryz.prog 16 #[.string s] w' (Pq t n c at_ w')) (i2 : ∀ w', Calls Tryz.prog 23 #[.string s] w' (Pq t n c at_ w')) :
    Calls Tryz.prog 10 #[.pointer (some ⟨gb, 0, none⟩), .string s] w fun e w' => e = .returned (.bool true) ∧ ∃ ρ' nV' wV' e1 e2, Bk ρ' w' gb (E ++ [e1] ++ [e2]) nV' wV' lV ∧ Stp (fun r => r < 3) ρ ρ' w w' := by
  have H := hid h
  have HE := hid hE
  have HN := hid hn
  have H16 := hid hn16
  have I1 := hid i1
  have I2 := hid i2
  clear h hE hn hn16 i1 i2
  obtain ⟨tO, tz, tR, tS⟩ := t
  go_enter Tryz.func10, Tryz.ntmps10
  go_upto_region 1 with fail
  go_upto_region 2 with (first
    | (go_at_call 16; (refine (I1.out _ (Below.refl _ _)).mono ?_); rintro q u1 ⟨⟨a1, c1, rfl, ho1, hf1⟩, bu1⟩; have X1 := hid (Bx.new u1 ⟨#[]⟩ 0 ⟨#[]⟩ (.slice none 0 0)))
    | ((with_reducible show wpList _ _ _ (Oper.mk _ (Op.store 26 _ _) _ _ _ _ :: _) _ _); go_must (refine wpList_store_row rfl 26 _ _ rfl u1.heap.size _ rfl rfl 26 _ X1.out (sizeNt22 _ _ _ _) rfl (oneNt22 _ _ _ _ _ _) ?_)))
  have G1 : Gp ⟨tO, tz, tR, tS⟩ n w ((u1.alloc (.cells #[.string ⟨#[]⟩, .int .i64 0, .string ⟨#[]⟩, .slice none 0 0] 26)).setRow u1.heap.size #[.string tO, .int .i64 tz, .string tR, .slice a1 n c1]) u1.heap.size a1 c1 := Gp.of (t := ⟨tO, tz, tR, tS⟩) bu1.size X1.out rfl rfl (bu1.alloc bu1.size _) (ho1.alloc _) (fun k hk => ⟨hf1 k hk, Nat.ne_of_lt (ho1.lt k hk)⟩)
  obtain ⟨w1, hw1⟩ : ∃ w1, (u1.alloc (.cells #[.string ⟨#[]⟩, .int .i64 0, .string ⟨#[]⟩, .slice none 0 0] 26)).setRow u1.heap.size #[.string tO, .int .i64 tz, .string tR, .slice a1 n c1] = w1 := ⟨_, rfl⟩
  obtain ⟨g1, hg1⟩ : ∃ g1, u1.heap.size = g1 := ⟨_, rfl⟩
  rw [hw1] at G1 ⊢
  rw [hg1] at G1 ⊢
  replace G1 := hid G1
  clear hw1 hg1 ho1 hf1 bu1 X1
  go_upto_region 3 with (first
    | (go_at_call 16; (refine (I1.out _ G1.out.b).mono ?_); rintro q u2 ⟨⟨a2, c2, rfl, ho2, hf2⟩, bu2⟩; have X2 := hid (Bx.new u2 ⟨#[]⟩ 0 ⟨#[]⟩ (.slice none 0 0)))
    | ((with_reducible show wpList _ _ _ (Oper.mk _ (Op.store 26 _ _) _ _ _ _ :: _) _ _); go_must (refine wpList_store_row rfl 26 _ _ rfl u2.heap.size _ rfl rfl 26 _ X2.out (sizeNt22 _ _ _ _) rfl (oneNt22 _ _ _ _ _ _) ?_)))
  have G2 : Gp ⟨tO, tz, tR, tS⟩ n w1 ((u2.alloc (.cells #[.string ⟨#[]⟩, .int .i64 0, .string ⟨#[]⟩, .slice none 0 0] 26)).setRow u2.heap.size #[.string tO, .int .i64 tz, .string tR, .slice a2 n c2]) u2.heap.size a2 c2 := Gp.of (t := ⟨tO, tz, tR, tS⟩) bu2.size X2.out rfl rfl (bu2.alloc bu2.size _) (ho2.alloc _) (fun k hk => ⟨hf2 k hk, Nat.ne_of_lt (ho2.lt k hk)⟩)
  obtain ⟨w2, hw2⟩ : ∃ w2, (u2.alloc (.cells #[.string ⟨#[]⟩, .int .i64 0, .string ⟨#[]⟩, .slice none 0 0] 26)).setRow u2.heap.size #[.string tO, .int .i64 tz, .string tR, .slice a2 n c2] = w2 := ⟨_, rfl⟩
  obtain ⟨g2, hg2⟩ : ∃ g2, u2.heap.size = g2 := ⟨_, rfl⟩
  rw [hw2] at G2 ⊢
  rw [hg2] at G2 ⊢
  replace G2 := hid G2
  clear hw2 hg2 ho2 hf2 bu2 X2
  go_upto_region 4 with (first
    | (go_at_call 23; (refine (I2.out _).mono ?_); rintro q u3 ⟨⟨a3, c3, rfl, ho3, hf3⟩, bu3⟩; have X3 := hid (Bx.new u3 ⟨#[]⟩ 0 ⟨#[]⟩ (.slice none 0 0)))
    | ((with_reducible show wpList _ _ _ (Oper.mk _ (Op.store 26 _ _) _ _ _ _ :: _) _ _); go_must (refine wpList_store_row rfl 26 _ _ rfl u3.heap.size _ rfl rfl 26 _ X3.out (sizeNt22 _ _ _ _) rfl (oneNt22 _ _ _ _ _ _) ?_)))
  have G3 : Gp ⟨tO, tz, tR, tS⟩ n w2 ((u3.alloc (.cells #[.string ⟨#[]⟩, .int .i64 0, .string ⟨#[]⟩, .slice none 0 0] 26)).setRow u3.heap.size #[.string tO, .int .i64 tz, .string tR, .slice a3 n c3]) u3.heap.size a3 c3 := Gp.of (t := ⟨tO, tz, tR, tS⟩) bu3.size X3.out rfl rfl (bu3.alloc bu3.size _) (ho3.alloc _) (fun k hk => ⟨hf3 k hk, Nat.ne_of_lt (ho3.lt k hk)⟩)
  obtain ⟨w3, hw3⟩ : ∃ w3, (u3.alloc (.cells #[.string ⟨#[]⟩, .int .i64 0, .string ⟨#[]⟩, .slice none 0 0] 26)).setRow u3.heap.size #[.string tO, .int .i64 tz, .string tR, .slice a3 n c3] = w3 := ⟨_, rfl⟩
  obtain ⟨g3, hg3⟩ : ∃ g3, u3.heap.size = g3 := ⟨_, rfl⟩
  rw [hw3] at G3 ⊢
  rw [hg3] at G3 ⊢
  replace G3 := hid G3
  clear hw3 hg3 ho3 hf3 bu3 X3
  obtain ⟨ρ3, hR3, S3⟩ := R3.of H.out G1.out G2.out G3.out
  have HR := hid hR3
  have HS := hid S3
  clear hR3 S3 G1 G2 G3 I1 I2
  obtain ⟨_, _, e9, A1, -⟩ := ownM_atS HR.out.x.own
  cases e9
  obtain ⟨_, _, e9, A2, -⟩ := ownM_atS HR.out.y.own
  cases e9
  obtain ⟨_, _, e9, A3, -⟩ := ownM_atS HR.out.z.own
  cases e9
  have i1 := same22_yes tO tz tR tS n HN (Nat.le_trans H16.out (by decide)) a1 a3 c1 c3 w3 A1 A3
  have i2 : Hid (∀ w', Below w3.heap.size w3 w' → Calls Tryz.prog 24 #[nv tO tz tR (.slice a2 n c2), nv tO tz tR (.slice a3 n c3)] w' fun e w'' => e = .returned (.bool true) ∧ Below w'.heap.size w' w'') := fun w' b => same22_yes tO tz tR tS n HN (Nat.le_trans H16.out (by decide)) a2 a3 c2 c3 w' (A2.below b) (A3.below b)
  clear A1 A2 A3
  have p0 := HR.out.b1.x.c0
  have p1 := HR.out.b1.x.c1
  have p2 := HR.out.b1.x.c2
  have p3 := HR.out.b1.x.c3
  have q0 := HR.out.b3.x.c0
  have q1 := HR.out.b3.x.c1
  have q2 := HR.out.b3.x.c2
  have q3 := HR.out.b3.x.c3
  unfold nv at *
  go_upto_region 5 with (go_at_call 24; (refine i1.mono ?_); rintro q w4 ⟨rfl, b4⟩)
  have HR4 := hid (HR.out.step (Stp.below b4 _ _ 1000001))
  have HS4 := hid (HS.out.trans (Stp.below b4 _ _ 1000001))
  have i3 := i2.out w4 b4
  clear i1 i2 p0 p1 p2 p3 q0 q1 q2 q3 b4 HR HS
  have p0 := HR4.out.b2.x.c0
  have p1 := HR4.out.b2.x.c1
  have p2 := HR4.out.b2.x.c2
  have p3 := HR4.out.b2.x.c3
  have q0 := HR4.out.b3.x.c0
  have q1 := HR4.out.b3.x.c1
  have q2 := HR4.out.b3.x.c2
  have q3 := HR4.out.b3.x.c3
  go_upto_region 6 with (go_at_call 24; (refine i3.mono ?_); rintro q w5 ⟨rfl, b5⟩)
  have HR5 := hid (HR4.out.step (Stp.below b5 _ _ 1000001))
  have HS5 := hid (HS4.out.trans (Stp.below b5 _ _ 1000001))
  clear i3 p0 p1 p2 p3 q0 q1 q2 q3 b5 HR4 HS4
  generalize extR (extR ρ3 w3 1000001) w4 1000001 = ρ5 at *
  have p0 := HR5.out.b1.x.c0
  have p1 := HR5.out.b1.x.c1
  have p2 := HR5.out.b1.x.c2
  have p3 := HR5.out.b1.x.c3
  have q0 := HR5.out.b3.x.c0
  have q1 := HR5.out.b3.x.c1
  have q2 := HR5.out.b3.x.c2
  have q3 := HR5.out.b3.x.c3
  have i4 := holds22_any HR5.out.h ⟨tO, tz, tR, tS⟩ n HN.out H16.out (by have := HE.out; omega) a1 a3 c1 c3 HR5.out.x HR5.out.z
  unfold nv at i4
  go_upto_region 7 with (go_at_call 25; (refine i4.mono ?_); rintro q w6 ⟨rfl, ρ6, nV6, wV6, B6, S6⟩)
  have hy := HR5.out.y.step S6 (by omega)
  have hz := HR5.out.z.step S6 (by omega)
  have x2 := (HR5.out.b2.step S6).x
  have x3 := (HR5.out.b3.step S6).x
  have HS6 := hid ((HS5.out.weak (T' := fun r => r < 3) fun _ e => e.elim).trans S6)
  have i5 := holds22_any B6 ⟨tO, tz, tR, tS⟩ n HN.out H16.out (by have := HE.out; rw [List.length_append, List.length_singleton]; omega) a2 a3 c2 c3 (by rw [List.length_append, List.length_singleton]; exact hy) hz
  unfold nv at i5
  clear i4 p0 p1 p2 p3 q0 q1 q2 q3 hy hz B6 S6 HR5 HS5
  have p0 := x2.c0
  have p1 := x2.c1
  have p2 := x2.c2
  have p3 := x2.c3
  have q0 := x3.c0
  have q1 := x3.c1
  have q2 := x3.c2
  have q3 := x3.c3
  clear x2 x3
  go_upto_region 8 with (go_at_call 25; (refine i5.mono ?_); rintro q w7 ⟨rfl, ρ7, nV7, wV7, B7, S7⟩)
  have HB7 := hid B7
  have HS7 := hid (HS6.out.trans S7)
  clear i5 p0 p1 p2 p3 q0 q1 q2 q3 B7 S7
  go_wp2
  go_ret
  exact ⟨rfl, ρ7, nV7, wV7, _, _, HB7.out, HS7.out⟩
end Nt
end Go.Proofs.YtdbbemcddhgbcaaGreatDoor

/- Layer 22, the law: lists that their owner has marked -/
namespace Go.Proofs.YtdbbemcddhgbcaaGreatDoor
open Go.RowKit Go.Shelf
namespace Nt
def mkT (i : Nat) : ByteArray := ⟨#[109, 97, 114, 107, UInt8.ofNat i, 0]⟩
def rep (X : ByteArray) (n : Nat) : List Sg := List.replicate n (X, ⟨#[]⟩)
theorem rep_len (X : ByteArray) (n : Nat) : (rep X n).length = n := List.length_replicate
theorem rep_succ (X : ByteArray) (n : Nat) : rep X n ++ [(X, ⟨#[]⟩)] = rep X (n + 1) := List.replicate_succ'.symm
theorem rep_at {X : ByteArray} {n k : Nat} (h : k < n) : (rep X n)[k]? = some (X, ⟨#[]⟩) := by unfold rep; rw [List.getElem?_replicate, if_pos h]
theorem AtS.kept {w w' : World} {a : Option Addr} {S : List Sg} (h : AtS w a S) (hs : w.heap.size ≤ w'.heap.size) (hb : ∀ p, a = some p → p.block < w.heap.size → w'.heap[p.block]? = w.heap[p.block]?) : AtS w' a S := fun j x hx => by
  obtain ⟨p, e, h1, h2, h3⟩ := h j x hx
  have hk := hb p e h1
  refine ⟨p, e, Nat.lt_of_lt_of_le h1 hs, ?_, ?_⟩
  · unfold World.cell? at h2 ⊢
    rw [adr_block] at h2 ⊢
    rw [hk]; exact h2
  · unfold World.cell? at h3 ⊢
    simp only [adr_block] at h3 ⊢
    rw [hk]; exact h3
/-- a list whose signatures are one mark, in blocks of one role -/
structure Mk (ρ : Nat → Nat) (w : World) (r : Nat) (X : ByteArray) (a : Option Addr) (n : Nat) : Prop where
  at_ : AtS w a (rep X n)
  few : n ≤ 100
  role : ∀ g, a = some g → g.off = 0 ∧ g.spot = none ∧ ρ g.block = r ∧ g.block < w.heap.size
theorem Mk.step {T : Nat → Prop} {ρ ρ' : Nat → Nat} {w w' : World} {r n : Nat} {X : ByteArray} {a : Option Addr} (h : Mk ρ w r X a n) (s : Stp T ρ ρ' w w') (hr : ¬ T r) : Mk ρ' w' r X a n :=
  ⟨h.at_.kept s.size fun p e hl => s.old _ hl (by rw [(h.role p e).2.2.1]; exact hr), h.few, fun g e => ⟨(h.role g e).1, (h.role g e).2.1, by rw [s.ext _ (h.role g e).2.2.2]; exact (h.role g e).2.2.1, Nat.lt_of_lt_of_le (h.role g e).2.2.2 s.size⟩⟩
theorem ownM_mk {ρ : Nat → Nat} {w : World} {r n N c : Nat} {X : ByteArray} {a : Option Addr} (h : Rl ρ r 2 w (.slice a N c) N (sgs (rep X N))) (hn : n ≤ N) (hf : n ≤ 100) : Mk ρ w r X a n := by
  obtain ⟨_, _, e, h1, _⟩ := ownM_atS h.own
  cases e
  refine ⟨fun j x hx => ?_, hf, fun g e => ?_⟩
  · have hj := (List.getElem?_eq_some_iff.1 hx).1
    rw [rep_len] at hj
    rw [rep_at hj] at hx
    exact h1 j x (by rw [rep_at (by omega)]; exact hx)
  · rcases h.own with ⟨e0, -, -⟩ | ⟨q, cap, e0, _⟩
    · cases e0; cases e
    · cases e0
      cases e
      exact ⟨rfl, rfl, h.role q rfl, h.own.lt q rfl⟩
/-- the list grows: those that were taken off it ahead stay -/
theorem Mk.grow {ρ : Nat → Nat} {w w' : World} {r n N c N' c' : Nat} {X : ByteArray} {a la la' : Option Addr} (h : Mk ρ w r X a n) (hN : ∀ g g', a = some g → la = some g' → g.block = g'.block → n ≤ N) (l : Rl ρ r 2 w (.slice la N c) N (sgs (rep X N))) (g : Wz.Grow w w' (.slice la N c) (.slice la' N' c')) (hNN : N ≤ N') (o : Wz.OwnM 2 w' (.slice la' N' c') N' (sgs (rep X N'))) :
    Mk (extR ρ w r) w' r X a n ∧ ∀ g g', a = some g → la' = some g' → g.block = g'.block → n ≤ N' := by
  have l2 := l.grown g o
  have s : Stp (fun q => q = r) ρ (extR ρ w r) w w' := Stp.grow g l.role rfl
  have hrole : ∀ g, a = some g → g.off = 0 ∧ g.spot = none ∧ extR ρ w r g.block = r ∧ g.block < w'.heap.size := fun q e => ⟨(h.role q e).1, (h.role q e).2.1, by rw [s.ext _ (h.role q e).2.2.2]; exact (h.role q e).2.2.1, Nat.lt_of_lt_of_le (h.role q e).2.2.2 s.size⟩
  have hown : ∀ (x : Option Addr) (m d : Nat) (q : Addr), x = some q → q.off = 0 → q.spot = none → (Value.slice x m d).ownBlock = some q.block := fun x m d q e h1 h2 => by
    obtain ⟨b, of, sp⟩ := q
    cases h1; cases h2; subst e; rfl
  have hlo : ∀ q, la = some q → q.off = 0 ∧ q.spot = none := fun q e => by
    rcases l.own with ⟨e0, -, -⟩ | ⟨b, cap, e0, _⟩
    · cases e0; cases e
    · cases e0; cases e; exact ⟨rfl, rfl⟩
  have hlo' : ∀ q, la' = some q → q.off = 0 ∧ q.spot = none := fun q e => by
    rcases o with ⟨e0, -, -⟩ | ⟨b, cap, e0, _⟩
    · cases e0; cases e
    · cases e0; cases e; exact ⟨rfl, rfl⟩
  have hcon : ∀ q q', a = some q → la' = some q' → q.block = q'.block → n ≤ N ∧ ∃ q0, la = some q0 ∧ q0.block = q.block := fun q q' e e' eb => by
    have h2 := hown la' N' c' q' e' (hlo' q' e').1 (hlo' q' e').2
    rcases g.alt with e9 | ⟨e9, _⟩
    · rw [h2] at e9
      cases hla : la with
      | none => rw [hla] at e9; cases e9
      | some q0 =>
        have h3 := hown la N c q0 hla (hlo q0 hla).1 (hlo q0 hla).2
        rw [h3] at e9
        have h4 := Option.some.inj e9
        exact ⟨hN q q0 e hla (by rw [eb, h4]), q0, rfl, by rw [eb, h4]⟩
    · have h5 := e9 _ h2
      have h6 := (h.role q e).2.2.2
      omega
  refine ⟨?_, fun q q' e e' eb => Nat.le_trans (hcon q q' e e' eb).1 hNN⟩
  cases ha : a with
  | none =>
    refine ⟨fun j x hx => ?_, h.few, fun g e => (by cases e)⟩
    obtain ⟨p, e, _⟩ := h.at_ j x hx
    rw [ha] at e; cases e
  | some q =>
    by_cases hb : ∃ q', la' = some q' ∧ q.block = q'.block
    · obtain ⟨q', e', eb⟩ := hb
      have hq := hcon q q' ha e' eb
      have hm := ownM_mk l2 (Nat.le_trans hq.1 hNN) h.few
      have eq : q = q' := by
        obtain ⟨b, of, sp⟩ := q
        obtain ⟨b', of', sp'⟩ := q'
        have h1 := (h.role _ ha).1
        have h2 := (h.role _ ha).2.1
        have h3 := (hlo' _ e').1
        have h4 := (hlo' _ e').2
        simp only at h1 h2 h3 h4 eb
        subst h1 h2 h3 h4 eb
        rfl
      rw [e', ← eq] at hm
      exact hm
    · refine ⟨?_, h.few, fun g e => hrole g (by rw [ha]; exact e)⟩
      rw [← ha]
      refine h.at_.kept s.size fun p e hl => ?_
      have ep : p = q := by rw [ha] at e; exact (Option.some.inj e).symm
      subst ep
      rcases g.alt with e9 | ⟨_, e9⟩
      · refine g.old _ hl fun e8 => ?_
        rw [e8] at e9
        cases hla : la' with
        | none => rw [hla] at e9; cases e9
        | some q0 =>
          rw [hown la' N' c' q0 hla (hlo' q0 hla).1 (hlo' q0 hla).2] at e9
          exact hb ⟨q0, hla, (Option.some.inj e9).symm⟩
      · exact e9 _ hl
end Nt
end Go.Proofs.YtdbbemcddhgbcaaGreatDoor
