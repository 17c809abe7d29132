import Derived.Test.YtjcapdkibbjmiaaGreatDoorPkSP13
import Derived.Test.YtjcapdkibbjmiaaGreatDoorPkSP28
namespace Go.Proofs.YtjcapdkibbjmiaaGreatDoor
open Go.RowKit Go.Shelf
namespace Chn
theorem OwnM.atC {w : World} {a : Option Addr} {n c : Nat} {l : List (List UInt8)} (h : OwnM 1 w (.slice a n c) n (svs l)) : At w a l := fun j p hp => by
  obtain ⟨g, cap, e, h1, h2⟩ := h.cell (j := j) (u := sv p) (by unfold svs; rw [List.getElem?_map, hp]; rfl)
  injection e with e
  refine ⟨⟨g, 0, none⟩, e, h2, ?_⟩
  rw [Addr.add_mid, Nat.zero_add]
  exact h1
theorem infoTx : (Tryz.prog.info? 9).map (fun i => (i.zero, i.size, i.bytes)) = some (some (.string ⟨#[]⟩), 1, 16) := by kernel_rfl
theorem append_txC (w : World) (v : Value) (l : List (List UInt8)) (x : ByteArray) (h : OwnM 1 w v l.length (svs l)) (hl : l.length ≤ 1000000) :
    ∃ v' w', (Builtin.append_ #[22, 22] 22 #[v, .slice (some ⟨w.heap.size, 0, none⟩) 1 1]).run Tryz.prog (w.alloc (.cells #[.string x] 9)) = .ok v' w' ∧ OwnM 1 w' v' (l ++ [x.data.toList]).length (svs (l ++ [x.data.toList])) ∧ Grow w w' v v' := by
  obtain ⟨v', w', h1, h2, h3⟩ := append_oneL 22 9 (.string ⟨#[]⟩) 16 Tryz.underlying22 infoTx rfl w v l.length (svs l) [.string x] rfl (fun u hu => by
    rw [List.mem_singleton] at hu; rw [hu]; rfl) h (by omega) (by rw [maxLen]; omega)
  refine ⟨v', w', h1, ?_, h3⟩
  have e : svs (l ++ [x.data.toList]) = svs l ++ [.string x] := by unfold svs; rw [List.map_append]; rfl
  rw [e, List.length_append]
  exact h2
structure Kd (w : World) (q b : Nat) (v h : Value) (K : List (Nat × Nat)) (H : List (List UInt8)) : Prop where
  td : Td w q b v K
  c2 : w.cell? ⟨q, 2, none⟩ = some h
  f2 : w.frozen? ⟨q, 2, none⟩ = false
  oh : OwnM 1 w h H.length (svs H)
  hF : ∀ k, h.ownBlock = some k → ¬ Td.F q b v k
def Kd.F (q b : Nat) (v h : Value) : Nat → Prop := fun k => Td.F q b v k ∨ h.ownBlock = some k
theorem Kd.keep {w w' : World} {q b : Nat} {v h : Value} {K : List (Nat × Nat)} {H : List (List UInt8)} {S : Nat → Prop} (k : Kd w q b v h K H) (hk : Keep S w w') (hs : ∀ i, Kd.F q b v h i → ¬ S i) : Kd w' q b v h K H := by
  have eq := hk.block q k.td.lt (hs q (.inl (.inl rfl)))
  exact ⟨k.td.keep hk fun i e => hs i (.inl e), (World.cell?_of_block (w := w) eq).trans k.c2, (World.frozen?_of_block (w := w) eq).trans k.f2, k.oh.keep hk fun i e => hs i (.inr e), k.hF⟩
theorem Kd.below {w w' : World} {q b : Nat} {v h : Value} {K : List (Nat × Nat)} {H : List (List UInt8)} (k : Kd w q b v h K H) (hk : Below w.heap.size w w') : Kd w' q b v h K H := k.keep (Keep.ofBelow (S := fun _ => False) hk) fun _ _ e => e
theorem Kd.Flt {w : World} {q b : Nat} {v h : Value} {K : List (Nat × Nat)} {H : List (List UInt8)} (k : Kd w q b v h K H) : ∀ i, Kd.F q b v h i → i < w.heap.size := by
  rintro i (e | e)
  · exact k.td.Flt i e
  · exact k.oh.lt i e
def Nw (w : World) (q b : Nat) (v h v' h' : Value) : Prop := ∀ k, Kd.F q b v' h' k → Kd.F q b v h k ∨ w.heap.size ≤ k
theorem Nw.refl (w : World) (q b : Nat) (v h : Value) : Nw w q b v h v h := fun _ e => .inl e
set_option maxRecDepth 100000 in
set_option maxHeartbeats 4000000 in
theorem hashC_any {w : World} {q b : Nat} {v h : Value} {A K0 K : List (Nat × Nat)} {H0 H : List (List UInt8)} (k : Kd w q b v h K H) (kw : Kw A K0 H0 K H) (T : Tabs w) (hT : ∀ i, Kd.F q b v h i → 4 ≤ i) {x y n : Nat} (hn : 1 ≤ n) (hn2 : n ≤ 1099511627776) (hi : Tree.insF n 0 n x y = true) (hA : (x, y) ∈ A) (hc : can K0 (x, y) = true) (h4 : A.length ≤ 4096) :
    Calls Tryz.prog 78 #[.pointer (some ⟨q, 0, none⟩), .int .i64 (n : Int), sg x y] w fun r w' => r = .returned (sv (fld K0 H0 (x, y))) ∧ ∃ v' h' K' H', Kd w' q b v' h' K' H' ∧ Kw A K0 H0 K' H' ∧ Keep (Kd.F q b v h) w w' ∧ Nw w q b v h v' h' := by
  have hin := Tree.insF_in _ _ _ _ _ hi hn
  have hxy : x < y := by omega
  have hy : y ≤ 1099511627776 := by omega
  have S0 := SpI.new w x y
  have b0 := (Below.refl w.heap.size w).alloc (Nat.le_refl _) (.cells #[.int .i64 (x : Int), .int .i64 (y : Int)] 60)
  have k0 := k.below b0
  have D0 := k.below b0.drew
  have HK0 := hid k0
  have B0 := hid b0
  have i1 := fun w' => ends_any (x : Int) (y : Int) w'
  have HS := hid S0
  have KL := hid (Nat.le_trans (nodup_len K A kw.nd kw.sub) h4)
  have HKW := hid kw
  have HK := hid k
  by_cases hk : (x, y) ∈ K
  · obtain ⟨j, hj⟩ := List.getElem?_of_mem hk
    have hjl : j < K.length := (List.getElem?_eq_some_iff.1 hj).1
    have hjH : j < H.length := by rw [← kw.len]; exact hjl
    have hfl := kw.at (s := (x, y)) hxy hj (List.getElem?_eq_getElem hjH)
    have HFL := hid hfl
    obtain ⟨g, cap, e, h1, h2⟩ := k0.oh.cell (j := j) (u := sv H[j]) (by unfold svs; rw [List.getElem?_map, List.getElem?_eq_getElem hjH]; rfl)
    subst e
    obtain ⟨n', hn'⟩ : ∃ n', H.length = n' := ⟨_, rfl⟩
    have HN := hid hn'
    have x0 := And.intro k0.td.c1 (And.intro S0.c0 (And.intro S0.c1 (D0.td.yes hj)))
    have HJ := hid hj
    rw [hn'] at hjH
    have e1 : (j : Int) < (n' : Int) := by omega
    have e2 : (0 : Int) ≤ (j : Int) := by omega
    obtain ⟨R, hR⟩ : ∃ R, sv H[j] = .string R := ⟨_, rfl⟩
    have HR := hid hR
    rw [hR] at h1
    have HC := hid h1
    unfold Hid at HK0 HK
    rw [hn'] at HK0 HK
    have HK0 := hid HK0
    have HK := hid HK
    clear k b0 k0 D0 hk hj S0 hfl h1 hn' kw hR hi hin
    go_enter Tryz.func78, Tryz.ntmps78
    go_wp2
    go_region_held3 (fun w' => w'.cell? ⟨q, 1, none⟩ = some (.map (some b)) ∧ w'.cell? ⟨w.heap.size, 0, none⟩ = some (.int .i64 (x : Int)) ∧ w'.cell? ⟨w.heap.size, 1, none⟩ = some (.int .i64 (y : Int)) ∧ (Instr.lookup 87 (.map (some b)) (.agg #[.int .i64 (x : Int), .int .i64 (y : Int)]) true).run Tryz.prog w' = .ok (.tuple #[.int .i64 (j : Int), .bool true]) w') (first | exact x1 | exact x0) (first | (go_at_call 101; refine (i1 _).mono ?_; rintro r w1 ⟨rfl, b1⟩; have b1 := drewBelow8 b1; have B1 := hid (B0.out.trans (b1.mono B0.out.size)); have K1 := hid (HK0.out.below b1); have x1 := And.intro K1.out.td.c1 (And.intro (HS.out.below b1).c0 (And.intro (HS.out.below b1).c1 (K1.out.td.yes HJ.out))); have cc : w1.cell? ⟨g, j, none⟩ = some (.string R) := (b1.cell (p := ⟨g, j, none⟩) h2).trans HC.out; clear b1))
    have d2 := K1.out.c2
    clear x0 x1
    go_wp2
    go_ret
    exact ⟨by rw [← HFL.out]; exact congrArg Ending.returned HR.out.symm, _, _, _, _, K1.out, HKW.out, Keep.ofBelow B1.out, Nw.refl _ _ _ _ _⟩
  · have HKn := hid hk
    have x0 := And.intro k0.td.c1 (And.intro S0.c0 (And.intro S0.c1 (D0.td.no hxy hy hk)))
    have hcK : can K (x, y) = true := (kw.can x y hxy).trans hc
    have hh : hsB8 H = true := by unfold hsB8; rw [List.all_eq_true]; intro z hz; simp [kw.h32 z hz]
    have hfo := foldA_can hn hn2 hi kw.len KL.out hh hcK
    rw [kw.fld x y hxy hc] at hfo
    have hkw' := hid (kw.next (s := (x, y)) hxy hA hk hc)
    obtain ⟨R, hR⟩ : ∃ R : List UInt8, fld K0 H0 (x, y) = R := ⟨_, rfl⟩
    have HR := hid hR
    rw [hR] at hfo
    unfold Hid at hkw'
    rw [hR] at hkw' ⊢
    have hkw' := hid hkw'
    have lK : Hid (K.length ≤ 9223372036854775807) := by have := KL.out; unfold Hid; omega
    have lH : Hid (H.length ≤ 9223372036854775807) := by have := KL.out; rw [kw.len] at this; unfold Hid; omega
    obtain ⟨va, vc, hv, _, _⟩ := k0.td.own.shape
    obtain ⟨ha, hcap, hh', _, _⟩ := k0.oh.shape
    have i2 := fun w' (t : Td w' q b v K) (o : OwnM 1 w' h H.length (svs H)) (tt : Tabs w') => foldF_any (n : Int) (pmC K) H (x : Int) (y : Int) va ha vc hcap w' (by rw [List.length_map]; exact lK.out) lH.out (by have := t.own; rw [hv] at this; exact this.atP) (by rw [hh'] at o; exact OwnM.atC o) tt
    rw [hfo, List.length_map] at i2
    have HV := hid hv
    have HH := hid hh'
    have TT := hid (fun w' (bb : Below w.heap.size w w') => T.below bb T.lt)
    have hT' := hid hT
    rw [← kw.len] at i2
    have HLN := hid kw.len
    have HHL := KL.out
    obtain ⟨m, hm⟩ : ∃ m, K.length = m := ⟨_, rfl⟩
    have HM := hid hm
    rw [hm] at i2 HHL
    have I2 := hid i2
    have fact : ∀ w', Kd w' q b v h K H → w'.cell? ⟨q, 0, none⟩ = some (.slice va m vc) ∧ w'.cell? ⟨q, 2, none⟩ = some (.slice ha m hcap) := fun w' t => by
      have a1 := t.td.c0
      have a2 := t.c2
      rw [HV.out, HM.out] at a1
      rw [HH.out, ← HLN.out, HM.out] at a2
      exact ⟨a1, a2⟩
    have HFa := hid fact
    clear k b0 k0 D0 hk S0 kw hR hi hin hfo i2 hT T lK lH hv hh' hcK hh hm fact
    go_enter Tryz.func78, Tryz.ntmps78
    go_wp2
    go_region_held3 (fun w' => w'.cell? ⟨q, 1, none⟩ = some (.map (some b)) ∧ w'.cell? ⟨w.heap.size, 0, none⟩ = some (.int .i64 (x : Int)) ∧ w'.cell? ⟨w.heap.size, 1, none⟩ = some (.int .i64 (y : Int)) ∧ (Instr.lookup 87 (.map (some b)) (.agg #[.int .i64 (x : Int), .int .i64 (y : Int)]) true).run Tryz.prog w' = .ok (.tuple #[.int .i64 0, .bool false]) w') (first | exact x1 | exact x0) (first | (go_at_call 101; refine (i1 _).mono ?_; rintro r w1 ⟨rfl, b1⟩; have b1 := drewBelow8 b1; have B1 := hid (B0.out.trans (b1.mono B0.out.size)); have K1 := hid (HK0.out.below b1); have S1 := hid (HS.out.below b1); have x1 := And.intro K1.out.td.c1 (And.intro S1.out.c0 (And.intro S1.out.c1 (K1.out.td.no hxy hy HKn.out))); clear b1))
    clear x0 x1 i1
    have y0 := And.intro (HFa.out _ K1.out).1 (And.intro (HFa.out _ K1.out).2 (And.intro S1.out.c0 S1.out.c1))
    have z2 := I2.out w1.drew (K1.out.td.below (Below.refl _ _).drew) (show OwnM 1 w1.drew h m (svs H) by rw [← HM.out, HLN.out]; exact K1.out.oh.drew) (TT.out _ B1.out.drew)
    go_wp2
    go_region_held3 (fun w' => w'.cell? ⟨q, 0, none⟩ = some (.slice va m vc) ∧ w'.cell? ⟨q, 2, none⟩ = some (.slice ha m hcap) ∧ w'.cell? ⟨w.heap.size, 0, none⟩ = some (.int .i64 (x : Int)) ∧ w'.cell? ⟨w.heap.size, 1, none⟩ = some (.int .i64 (y : Int))) (first | exact y1 | exact y0) (first | (go_at_call 103; refine z2.mono ?_; rintro r w2 ⟨rfl, b2⟩; have b2 := drewBelow8 b2; have B2 := hid (B1.out.trans (b2.mono B1.out.size)); have K2 := hid (K1.out.below b2); have S2 := hid (S1.out.below b2); have y1 := And.intro (HFa.out _ K2.out).1 (And.intro (HFa.out _ K2.out).2 (And.intro S2.out.c0 S2.out.c1)); clear b2))
    have u0 := And.intro S2.out.c0 S2.out.c1
    have z3 := addC_any (K2.out.td.below (Below.refl _ _).drew) hxy hy HKn.out (by rw [HM.out]; omega)
    clear y0 y1 z2
    have K2c := K2.out
    go_wp2
    go_region_held3 (fun w' => w'.cell? ⟨w.heap.size, 0, none⟩ = some (.int .i64 (x : Int)) ∧ w'.cell? ⟨w.heap.size, 1, none⟩ = some (.int .i64 (y : Int))) (first | exact u1 | exact u0) (first | (go_at_call 76; refine z3.mono ?_; rintro r w3 ⟨rfl, v', D3, K3, a3, c3, f3⟩; have K3' : Keep (Td.F q b v) w2 w3 := ⟨K3.os, K3.tape, K3.output, K3.size, K3.block⟩; have S3 := hid (S2.out.keep K3' (fun e => by have := HK.out.td.Flt _ e; omega)); have u1 := And.intro S3.out.c0 S3.out.c1))
    have d2 : w3.cell? ⟨q, 2, none⟩ = some h := (c3 2 (by decide)).trans K2c.c2
    have e2 : w3.frozen? ⟨q, 2, none⟩ = false := (f3 2).trans K2c.f2
    have o3 := K2c.oh.keep K3' K2c.hF
    obtain ⟨h', w4, hap, O4, G4⟩ := append_txC w3 h H ⟨R.toArray⟩ o3 (by rw [← HLN.out, HM.out]; omega)
    have hq3 : q < w3.heap.size := D3.lt
    have e4 := G4.keep.block q hq3 (fun e => K2c.hF q e (.inl rfl))
    have d4 : w4.cell? ⟨q, 2, none⟩ = some h := (World.cell?_of_block (w := w3) e4).trans d2
    have g4 : w4.frozen? ⟨q, 2, none⟩ = false := (World.frozen?_of_block (w := w3) e4).trans e2
    have hsz := K3'.size
    have nv' : ∀ k, h'.ownBlock = some k → h.ownBlock = some k ∨ w3.heap.size ≤ k := Grow.alt' G4
    have hF' : ∀ k, h'.ownBlock = some k → ¬ Td.F q b v' k := fun k hk hf => by
      have hft := D3.Flt k hf
      rcases nv' k hk with h1 | h1
      · rcases hf with hf | hf | hf
        · exact K2c.hF k h1 (.inl hf)
        · exact K2c.hF k h1 (.inr (.inl hf))
        · rcases a3 k hf with h2 | h2
          · exact K2c.hF k h1 (.inr (.inr h2))
          · have h3 := K2c.oh.lt k h1
            have h4 : w2.heap.size ≤ k := h2
            omega
      · omega
    have hoff : ∀ k, Td.F q b v' k → ¬ h.ownBlock = some k := fun k hf h1 => by
      rcases hf with hf | hf | hf
      · exact K2c.hF k h1 (.inl hf)
      · exact K2c.hF k h1 (.inr (.inl hf))
      · rcases a3 k hf with h2 | h2
        · exact K2c.hF k h1 (.inr (.inr h2))
        · have h3 := K2c.oh.lt k h1
          have h4 : w2.heap.size ≤ k := h2
          omega
    have D4 := D3.keep G4.keep hoff
    obtain ⟨ha', hn', hc', rfl⟩ := ownM_sl O4
    have fin : Hid (Kd (w4.setCell ⟨q, 2, none⟩ (.slice ha' hn' hc')) q b v' (.slice ha' hn' hc') (K ++ [(x, y)]) (H ++ [R])) := by
      have k1 : Keep (fun k => k = q) w4 (w4.setCell ⟨q, 2, none⟩ (.slice ha' hn' hc')) := Keep.ofSet (S := fun k => k = q) w4 q 2 _ rfl
      obtain ⟨f, hf, hg⟩ := D4.mp
      refine ⟨⟨?_, ?_, ?_, D4.own.keep k1 (fun k hk e => D4.vq (e ▸ hk)), ⟨f, hf.keep k1 (fun e => D4.qb e.symm), hg⟩, D4.lo, D4.qb, D4.vq, D4.vb, ?_⟩, World.cell?_setCell_same' _ _ _ (by rw [d4]; rfl), ?_, O4.keep k1 (fun k hk e => hF' k hk (.inl e)), hF'⟩
      · exact (World.cell?_setCell_other _ _ _ _ (by simp)).trans D4.c0
      · exact (World.cell?_setCell_other _ _ _ _ (by simp)).trans D4.c1
      · rw [World.frozen?_setCell]; exact D4.f0
      · exact Nat.lt_of_lt_of_le D4.lt k1.size
      · rw [World.frozen?_setCell]; exact g4
    have kp : Hid (Keep (Kd.F q b v h) w (w4.setCell ⟨q, 2, none⟩ (.slice ha' hn' hc'))) :=
      (((Keep.ofBelow (S := Kd.F q b v h) B2.out).trans (K3'.mono (T := Kd.F q b v h) fun k _ e => .inl e) fun _ _ e => e).trans (G4.keep.mono (T := Kd.F q b v h) fun k _ e => .inr e) fun _ _ e => e).trans (Keep.ofSet (S := fun k => k = q) w4 q 2 _ rfl) fun k _ e => .inl (.inl e)
    have nwf : Hid (Nw w q b v h v' (.slice ha' hn' hc')) := by
      have z1 := B2.out.size
      rintro k ((e | e | e) | e)
      · exact .inl (.inl (.inl e))
      · exact .inl (.inl (.inr (.inl e)))
      · rcases a3 k e with h1 | h1
        · exact .inl (.inl (.inr (.inr h1)))
        · have h2 : w2.heap.size ≤ k := h1
          exact .inr (by omega)
      · rcases nv' k e with h1 | h1
        · exact .inl (.inr h1)
        · exact .inr (by omega)
    clear u0 u1 z3 K2c K3 K3' a3 c3 f3 D3 D4 o3 O4 G4 hF' hoff nv' e4
    go_wp2_with (at_builtin; go_must (refine Lib.wpList_append_run _ rfl _ _ 22 22 rfl _ _ rfl rfl _ _ hap ?_))
    go_ret
    exact ⟨rfl, _, _, _, _, fin.out, hkw'.out, kp.out, nwf.out⟩
end Chn
end Go.Proofs.YtjcapdkibbjmiaaGreatDoor

namespace Go.Proofs.YtjcapdkibbjmiaaGreatDoor
open Go.RowKit Go.Shelf
namespace Chn
def vpreC {α : Type} (f : α → List UInt8) (S : List α) (k : Nat) : List (List UInt8) := (S.take k).map f ++ List.replicate (S.length - k) []
theorem vpreC_zero {α : Type} (f : α → List UInt8) (S : List α) : vpreC f S 0 = List.replicate S.length [] := by simp [vpreC]
theorem vpreC_all {α : Type} (f : α → List UInt8) (S : List α) : vpreC f S S.length = S.map f := by simp [vpreC]
theorem vpreC_len {α : Type} (f : α → List UInt8) (S : List α) {k : Nat} (hk : k ≤ S.length) : (vpreC f S k).length = S.length := by simp [vpreC]; omega
theorem vpreC_set {α : Type} (f : α → List UInt8) (S : List α) {k : Nat} (hk : k < S.length) : (vpreC f S k).set k (f S[k]) = vpreC f S (k + 1) := by
  unfold vpreC
  obtain ⟨m, hm⟩ : ∃ m, S.length - k = m + 1 := ⟨S.length - k - 1, by omega⟩
  have h1 : ((S.take k).map f).length = k := by simp; omega
  rw [hm, show S.length - (k + 1) = m by omega, List.replicate_succ, List.set_append, if_neg (by omega), h1, Nat.sub_self, List.set_cons_zero, List.take_add_one, List.getElem?_eq_getElem hk, List.map_append, List.append_assoc]
  rfl
theorem tabs_keepC {S : Nat → Prop} {w w' : World} (T : Tabs w) (hk : Keep S w w') (hS : ∀ k, S k → 4 ≤ k) : Tabs w' := T.below (keep_belowC hk (B := 4) T.lt hS) (Nat.le_refl _)
theorem Nw.trans {w w' : World} {q b : Nat} {v h v' h' v2 h2 : Value} (n1 : Nw w q b v h v' h') (n2 : Nw w' q b v' h' v2 h2) (hs : w.heap.size ≤ w'.heap.size) : Nw w q b v h v2 h2 := fun k e => by
  rcases n2 k e with e1 | e1
  · exact n1 k e1
  · exact .inr (by omega)
structure Pf (w w' : World) (q b G : Nat) (v h v' h' vL : Value) (A K0 : List (Nat × Nat)) (H0 : List (List UInt8)) (L : List (Nat × Nat)) (k : Nat) (K : List (Nat × Nat)) (H : List (List UInt8)) : Prop where
  row : Row w' G (vpreC (fld K0 H0) L k)
  kd : Kd w' q b v' h' K H
  kw : Kw A K0 H0 K H
  kp : Keep (Kd.F q b v h) w w'
  nw : Nw w q b v h v' h'
  ow : OwnP w' vL L
  g0 : w.heap.size ≤ G
  gF : ¬ Kd.F q b v' h' G
  lF : ∀ i, vL.ownBlock = some i → ¬ Kd.F q b v' h' i
  lG : vL.ownBlock ≠ some G
theorem Pf.below {w w' w2 : World} {q b G : Nat} {v h v' h' vL : Value} {A K0 L K : List (Nat × Nat)} {H0 H : List (List UInt8)} {k : Nat} (p : Pf w w' q b G v h v' h' vL A K0 H0 L k K H) (hb : Below w'.heap.size w' w2) : Pf w w2 q b G v h v' h' vL A K0 H0 L k K H :=
  ⟨p.row.below hb p.row.lt, p.kd.below hb, p.kw, p.kp.trans (Keep.ofBelow (S := fun _ => False) hb) (fun _ _ e => e.elim), p.nw, p.ow.below hb, p.g0, p.gF, p.lF, p.lG⟩
theorem Pf.hash {w w' w2 : World} {q b G : Nat} {v h v' h' v2 h2 vL : Value} {A K0 L K K2 : List (Nat × Nat)} {H0 H H2 : List (List UInt8)} {k : Nat} (p : Pf w w' q b G v h v' h' vL A K0 H0 L k K H) (k2 : Kd w2 q b v2 h2 K2 H2) (kw : Kw A K0 H0 K2 H2) (kp : Keep (Kd.F q b v' h') w' w2) (nw : Nw w' q b v' h' v2 h2) : Pf w w2 q b G v h v2 h2 vL A K0 H0 L k K2 H2 := by
  have hs := p.kp.size
  refine ⟨?_, k2, kw, p.kp.trans kp (fun i hi e => (p.nw i e).resolve_right (by omega)), p.nw.trans nw hs, p.ow.keep kp p.lF, p.g0, fun e => ?_, fun i hi e => ?_, p.lG⟩
  · have := p.row
    unfold Row at this ⊢
    rw [kp.block G p.row.lt p.gF]
    exact this
  · rcases nw G e with e | e
    · exact p.gF e
    · have := p.row.lt; omega
  · rcases nw i e with e | e
    · exact p.lF i hi e
    · have := p.ow.lt i hi; omega
theorem Pf.put {w w' : World} {q b G : Nat} {v h v' h' vL : Value} {A K0 L K : List (Nat × Nat)} {H0 H : List (List UInt8)} {k : Nat} (p : Pf w w' q b G v h v' h' vL A K0 H0 L k K H) (hk : k < L.length) : Pf w (w'.setCell ⟨G, k, none⟩ (sv (fld K0 H0 L[k]))) q b G v h v' h' vL A K0 H0 L (k + 1) K H := by
  have k1 : Keep (fun i => i = G) w' (w'.setCell ⟨G, k, none⟩ (sv (fld K0 H0 L[k]))) := Keep.ofSet (S := fun i => i = G) w' G k _ rfl
  refine ⟨?_, p.kd.keep k1 (fun i e e2 => p.gF (e2 ▸ e)), p.kw, p.kp.trans k1 (fun i hi e => by have := p.g0; omega), p.nw, p.ow.keep k1 (fun i hi e => p.lG (e ▸ hi)), p.g0, p.gF, p.lF, p.lG⟩
  have := p.row.set k (fld K0 H0 L[k])
  rw [vpreC_set (fld K0 H0) L hk] at this
  exact this
set_option maxRecDepth 100000 in
set_option maxHeartbeats 4000000 in
theorem proofC_any {w : World} {q b : Nat} {v h : Value} {A K0 K : List (Nat × Nat)} {H0 H : List (List UInt8)} (kd : Kd w q b v h K H) (kw : Kw A K0 H0 K H) (T : Tabs w) (hT : ∀ i, Kd.F q b v h i → 4 ≤ i) {a n : Nat} (h1 : 1 ≤ a) (h2 : a ≤ n) (h3 : n ≤ 1099511627776) (hA : ∀ s ∈ prf a n, s ∈ A ∧ can K0 s = true) (h4 : A.length ≤ 4096) :
    Calls Tryz.prog 51 #[.pointer (some ⟨q, 0, none⟩), .int .i64 (a : Int), .int .i64 (n : Int)] w fun r w' => ∃ G v' h' K' H', r = .returned (.slice (some ⟨G, 0, none⟩) (prf a n).length (prf a n).length) ∧ Row w' G ((prf a n).map (fld K0 H0)) ∧ w.heap.size ≤ G ∧ Kd w' q b v' h' K' H' ∧ Kw A K0 H0 K' H' ∧ Keep (Kd.F q b v h) w w' ∧ Nw w q b v h v' h' ∧ ¬ Kd.F q b v' h' G := by
  have i1 := betweenC a n h1 h2 h3 w
  have hln := prf_len h1 h2 h3
  have hins := hid (fun s (hs : s ∈ prf a n) => prf_ins n 0 n a (Nat.le_refl _) (by omega) (by omega) (by omega) s hs)
  have HKD := hid kd
  have HKW := hid kw
  have HT := hid T
  have HTT := hid hT
  have HAA := hid hA
  have hTl := T.lt
  generalize prf a n = L at *
  obtain ⟨nl, hnl⟩ : ∃ nl, L.length = nl := ⟨_, rfl⟩
  have HNL := hid hnl
  rw [hnl] at hln ⊢
  clear kd kw T hT hA hnl
  go_enter Tryz.func51, Tryz.ntmps51
  have mk := fun w' => make_texts w' nl (by omega)
  go_wp2_with (go_at_call 74; refine i1.mono ?_; rintro r w1 ⟨b1, vL, rfl, OL, hvL⟩; obtain ⟨la, lc, hla, _, _⟩ := OL.shape; have B1 := hid b1; have HOL := hid OL; have HVL := hid hvL; subst hla; rw [HNL.out]; have mk1 := mk w1; clear b1 OL hvL)
  have z1 := B1.out.size
  have P0 : Hid (Pf w (w1.alloc (.cells (svs (List.replicate nl [])).toArray 9)) q b w1.heap.size v h v h (.slice la nl lc) A K0 H0 L 0 K H) := by
    have bA := (Below.refl w1.heap.size w1).alloc (Nat.le_refl _) (.cells (svs (List.replicate nl [])).toArray 9)
    have bb := B1.out.trans (bA.mono z1)
    refine ⟨?_, HKD.out.below bb, HKW.out, Keep.ofBelow bb, Nw.refl _ _ _ _ _, ?_, z1, fun e => ?_, fun i hi e => ?_, fun e => ?_⟩
    · have := heap_alloc_new w1 (.cells (svs (List.replicate nl [])).toArray 9)
      unfold Row
      rw [vpreC_zero, HNL.out]
      exact this
    · have := HOL.out.below bA
      rw [HNL.out] at this
      unfold OwnP
      rw [HNL.out]
      exact this
    · have := HKD.out.Flt _ e; omega
    · have := HKD.out.Flt _ e; have := HVL.out i (by rw [HNL.out]; exact hi); omega
    · have := HOL.out.lt w1.heap.size (by rw [HNL.out]; exact e); omega
  clear i1 mk mk1 HKD HKW HOL HVL
  go_loopw [9, 10, 19] (fun _ _ i w' => ∃ (k : Nat) (v' h' : Value) (K' : List (Nat × Nat)) (H' : List (List UInt8)), k ≤ nl ∧ i = .int .i64 (k : Int) ∧ Hid (Pf w w' q b w1.heap.size v h v' h' (.slice la nl lc) A K0 H0 L k K' H')) (fun _ _ i _ => nl - (intOf i).toNat)
  case atStart => exact ⟨0, v, h, K, H, by omega, rfl, P0⟩
  case round =>
    clear P0
    obtain ⟨k, v', h', K', H', hk, rfl, hP⟩ := hrel
    by_cases hkl : k < nl
    · have e0 : (k : Int) < (nl : Int) := by omega
      have e1 : (0 : Int) ≤ (k : Int) := by omega
      have hkL : k < L.length := by rw [HNL.out]; exact hkl
      have hpo := hP.out.ow
      unfold OwnP at hpo
      rw [HNL.out] at hpo
      obtain ⟨g, hg0, hg, c0, c1⟩ := ownP_atC (show OwnP wr (.slice la nl lc) L from hP.out.ow) (List.getElem?_eq_getElem hkL)
      subst hg0
      have hm := List.getElem_mem hkL
      have hin := hins.out _ hm
      have haa := HAA.out _ hm
      have bA := (Below.refl wr.heap.size wr).alloc (Nat.le_refl _) (.cells #[.int .i64 (L[k].1 : Int), .int .i64 (L[k].2 : Int)] 60)
      have PA := hid (hP.out.below bA)
      have hFt : ∀ i, Kd.F q b v' h' i → 4 ≤ i := fun i e => by
        rcases hP.out.nw i e with e | e
        · exact HTT.out i e
        · omega
      have TA : Tabs (wr.alloc (.cells #[.int .i64 (L[k].1 : Int), .int .i64 (L[k].2 : Int)] 60)) := tabs_keepC HT.out PA.out.kp HTT.out
      have i2 := hashC_any PA.out.kd PA.out.kw TA hFt (x := L[k].1) (y := L[k].2) (n := n) (by omega) h3 hin haa.1 haa.2 h4
      have ePut := hid (fun w2 v2 h2 K2 H2 (p : Pf w w2 q b w1.heap.size v h v2 h2 (.slice (some ⟨g, 0, none⟩) nl lc) A K0 H0 L k K2 H2) => p.put hkL)
      have rl : Hid (k < (vpreC (fld K0 H0) L k).length) := by unfold Hid; rw [vpreC_len _ _ (by omega)]; exact hkL
      rw [show (L[k].1, L[k].2) = L[k] from rfl] at i2
      obtain ⟨R, hR⟩ : ∃ R, sv (fld K0 H0 L[k]) = .string R := ⟨_, rfl⟩
      unfold Hid at ePut
      rw [hR] at i2 ePut
      have ePut := hid ePut
      generalize (L[k].1 : Int) = sx at *
      generalize (L[k].2 : Int) = sy at *
      clear hP hpo hm hin haa bA TA hFt hR
      go_wp2_with (go_at_call 78; refine i2.mono ?_; rintro r w2 ⟨rfl, v2, h2', K2, H2, kd2, kw2, kp2, nw2⟩; have P2 := hid (PA.out.hash kd2 kw2 kp2 nw2); have f2 := P2.out.row.free rl.out; have d2 := P2.out.row.cell (List.getElem?_eq_getElem rl.out); clear kd2 kw2 kp2 nw2)
      have P3 := hid (ePut.out _ _ _ _ _ P2.out)
      exact ⟨⟨k + 1, v2, h2', K2, H2, by omega, by go_num, P3⟩, by simp [intOf]; omega⟩
    · obtain rfl : k = nl := by omega
      have e0 : ¬ (k : Int) < (k : Int) := by omega
      go_wp2
      go_ret
      have hr := hP.out.row
      rw [← HNL.out, vpreC_all] at hr
      exact ⟨w1.heap.size, rfl, hr, z1, v', h', K', H', hP.out.kd, hP.out.kw, hP.out.kp, hP.out.nw, hP.out.gF⟩
end Chn
end Go.Proofs.YtjcapdkibbjmiaaGreatDoor

namespace Go.Proofs.YtjcapdkibbjmiaaGreatDoor
open Go.RowKit Go.Shelf
namespace Chn
def RowV (w : World) (G : Nat) (ty : TypeId) (cs : List Value) : Prop := w.heap[G]? = some (.cells cs.toArray ty (0, 0))
theorem RowV.lt {w : World} {G : Nat} {ty : TypeId} {cs : List Value} (h : RowV w G ty cs) : G < w.heap.size := lt_of_heap h
theorem RowV.cell {w : World} {G : Nat} {ty : TypeId} {cs : List Value} (h : RowV w G ty cs) {j : Nat} {v : Value} (hv : cs[j]? = some v) : w.cell? ⟨G, j, none⟩ = some v := by
  rw [cell_of_row _ _ _ _ _ _ h]; simp [hv]
theorem RowV.free {w : World} {G : Nat} {ty : TypeId} {cs : List Value} (h : RowV w G ty cs) {j : Nat} (hj : j < cs.length) : w.frozen? ⟨G, j, none⟩ = false := by
  have := (there_of_row h 0 cs.length (by simp)) j hj
  rw [Nat.zero_add] at this
  exact this.2
theorem RowV.below {w w' : World} {G B : Nat} {ty : TypeId} {cs : List Value} (h : RowV w G ty cs) (hb : Below B w w') (hB : G < B) : RowV w' G ty cs := by
  unfold RowV; rw [hb.block G hB]; exact h
theorem RowV.set {w : World} {G : Nat} {ty : TypeId} {cs : List Value} (h : RowV w G ty cs) (k : Nat) (v : Value) : RowV (w.setCell ⟨G, k, none⟩ v) G ty (cs.set k v) := by
  have e := setCell_eq_setRow w G k cs.toArray ty (0, 0) v h
  unfold RowV
  rw [e, setRow_heap _ _ _ _ _ _ h]
  refine congrArg (fun A => some (Obj.cells A ty (0, 0))) ?_
  simp
theorem infoSl12 : (Tryz.prog.info? 22).map (fun i => (i.zero, i.size, i.bytes)) = some (some (.slice none 0 0), 1, 24) := by kernel_rfl
theorem make_lists (w : World) (c : Nat) (hc : c ≤ 1000000) :
    (Instr.makeSlice 31 (.int .i64 (c : Int)) (.int .i64 (c : Int))).run Tryz.prog w = .ok (.slice (some ⟨w.heap.size, 0, none⟩) c c) (w.alloc (.cells (List.replicate c (.slice none 0 0)).toArray 22)) := by
  obtain ⟨i0, hi, hz0, hz1, hz2⟩ := info_parts infoSl12
  have h := run_make (P := Tryz.prog) w 31 22 i0 (.slice none 0 0) Tryz.underlying31 hi hz0 .i64 .i64 (c : Int) (c : Int) (by omega) (by omega) (by rw [hz2]; omega) (by omega)
  rw [Int.toNat_natCast, hz1, Nat.mul_one] at h
  have e : madeCells (Value.slice none 0 0).cells c = (List.replicate c (.slice none 0 0)).toArray := by
    apply Array.ext'
    rw [show (madeCells (Value.slice none 0 0).cells c).toList = List.replicate c (.slice none 0 0) from toList_madeCells_one _ _]
  rw [e] at h
  exact h
theorem make_lists' (w : World) (c : Nat) (hc : c ≤ 1000000) : ∃ w', (Instr.makeSlice 31 (.int .i64 (c : Int)) (.int .i64 (c : Int))).run Tryz.prog w = .ok (.slice (some ⟨w.heap.size, 0, none⟩) c c) w' ∧ RowV w' w.heap.size 22 (List.replicate c (.slice none 0 0)) ∧ Below w.heap.size w w' ∧ w'.heap.size = w.heap.size + 1 :=
  ⟨_, make_lists w c hc, heap_alloc_new w _, (Below.refl _ _).alloc (Nat.le_refl _) _, by simp⟩
def lst (g : Nat) (p : List (List UInt8)) : Value := .slice (some ⟨g, 0, none⟩) p.length p.length
def lsts (gs : List Nat) (ps : List (List (List UInt8))) (m : Nat) : List Value := List.zipWith lst gs ps ++ List.replicate (m - gs.length) (.slice none 0 0)
theorem lsts_len {gs : List Nat} {ps : List (List (List UInt8))} {m : Nat} (h1 : gs.length ≤ ps.length) (h2 : gs.length ≤ m) : (lsts gs ps m).length = m := by
  unfold lsts; rw [List.length_append, List.length_zipWith, List.length_replicate]; omega
theorem zip_more {gs : List Nat} {ps : List (List (List UInt8))} (h : gs.length < ps.length) (g : Nat) : List.zipWith lst (gs ++ [g]) ps = List.zipWith lst gs ps ++ [lst g (ps[gs.length]'h)] := by
  induction gs generalizing ps with
  | nil =>
    cases ps with
    | nil => simp at h
    | cons p ps => simp
  | cons a gs ih =>
    cases ps with
    | nil => simp at h
    | cons p ps =>
      simp only [List.cons_append, List.zipWith_cons_cons, List.cons.injEq, true_and]
      exact ih (by simpa using h)
theorem lsts_set {gs : List Nat} {ps : List (List (List UInt8))} {m : Nat} (h1 : gs.length < ps.length) (h2 : gs.length < m) (g : Nat) : (lsts gs ps m).set gs.length (lst g (ps[gs.length]'h1)) = lsts (gs ++ [g]) ps m := by
  unfold lsts
  obtain ⟨q, hq⟩ : ∃ q, m - gs.length = q + 1 := ⟨m - gs.length - 1, by omega⟩
  have hl : (List.zipWith lst gs ps).length = gs.length := by rw [List.length_zipWith]; omega
  rw [hq, zip_more h1, List.set_append, if_neg (by omega), hl, Nat.sub_self, List.replicate_succ, List.set_cons_zero, List.length_append, List.length_singleton, show m - (gs.length + 1) = q by omega, List.append_assoc]
  rfl
structure Lsts (w : World) (B : Nat) (gs : List Nat) (ps : List (List (List UInt8))) : Prop where
  row : ∀ (k g : Nat) (p : List (List UInt8)), gs[k]? = some g → ps[k]? = some p → Row w g p
  up : gs.Pairwise (· < ·)
  ge : ∀ g ∈ gs, B ≤ g ∧ g < w.heap.size
def LsP (w : World) (ps : List (List (List UInt8))) (r : Ending) (w' : World) : Prop := ∃ G gs, r = .returned (.tuple #[.slice (some ⟨G, 0, none⟩) ps.length ps.length, .int .i64 0]) ∧ RowV w' G 22 (List.zipWith lst gs ps) ∧ gs.length = ps.length ∧ Lsts w' (G + 1) gs ps ∧ w.heap.size ≤ G ∧ Below w.heap.size w w'
end Chn
end Go.Proofs.YtjcapdkibbjmiaaGreatDoor
