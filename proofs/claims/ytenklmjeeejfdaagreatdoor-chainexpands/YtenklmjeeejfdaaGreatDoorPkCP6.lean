import Derived.Test.YtenklmjeeejfdaaGreatDoorPkSP13
import Derived.Test.YtenklmjeeejfdaaGreatDoorPkSP24
import Derived.Laws.ResultCell
namespace Go.Proofs.YtenklmjeeejfdaaGreatDoor
open Go.RowKit Go.Shelf
namespace Chn
theorem OwnM.atC {w : World} {a : Option Addr} {n c : Nat} {l : List (List UInt8)} (h : OwnM 1 w (.slice a n c) n (svs l)) : At w a l := fun j p hp => by
  obtain ⟨g, cap, e, h1, h2⟩ := h.cell (j := j) (u := sv p) (by unfold svs; rw [List.getElem?_map, hp]; rfl)
  injection e with e
  refine ⟨⟨g, 0, none⟩, e, h2, ?_⟩
  rw [Addr.add_mid, Nat.zero_add]
  exact h1
theorem infoTx : (Tryz.prog.info? 9).map (fun i => (i.zero, i.size, i.bytes)) = some (some (.string ⟨#[]⟩), 1, 16) := by kernel_rfl
theorem append_txC (w : World) (v : Value) (l : List (List UInt8)) (x : ByteArray) (h : OwnM 1 w v l.length (svs l)) (hl : l.length ≤ 1000000) :
    ∃ v' w', (Builtin.append_ #[23, 23] 23 #[v, .slice (some ⟨w.heap.size, 0, none⟩) 1 1]).run Tryz.prog (w.alloc (.cells #[.string x] 9)) = .ok v' w' ∧ OwnM 1 w' v' (l ++ [x.data.toList]).length (svs (l ++ [x.data.toList])) ∧ Grow w w' v v' := by
  obtain ⟨v', w', h1, h2, h3⟩ := append_oneL 23 9 (.string ⟨#[]⟩) 16 Tryz.underlying23 infoTx rfl w v l.length (svs l) [.string x] rfl (fun u hu => by
    rw [List.mem_singleton] at hu; rw [hu]; rfl) h (by omega) (by rw [maxLen]; omega)
  refine ⟨v', w', h1, ?_, h3⟩
  have e : svs (l ++ [x.data.toList]) = svs l ++ [.string x] := by unfold svs; rw [List.map_append]; rfl
  rw [e, List.length_append]
  exact h2
structure Kd (w : World) (q b : Nat) (v h : Value) (K : List (Nat × Nat)) (H : List (List UInt8)) : Prop where
  td : Td w q b v K
  c2 : w.cell? ⟨q, 2, none⟩ = some h
  f2 : w.frozen? ⟨q, 2, none⟩ = false
  oh : OwnM 1 w h H.length (svs H)
  hF : ∀ k, h.ownBlock = some k → ¬ Td.F q b v k
def Kd.F (q b : Nat) (v h : Value) : Nat → Prop := fun k => Td.F q b v k ∨ h.ownBlock = some k
theorem Kd.keep {w w' : World} {q b : Nat} {v h : Value} {K : List (Nat × Nat)} {H : List (List UInt8)} {S : Nat → Prop} (k : Kd w q b v h K H) (hk : Keep S w w') (hs : ∀ i, Kd.F q b v h i → ¬ S i) : Kd w' q b v h K H := by
  have eq := hk.block q k.td.lt (hs q (.inl (.inl rfl)))
  exact ⟨k.td.keep hk fun i e => hs i (.inl e), (World.cell?_of_block (w := w) eq).trans k.c2, (World.frozen?_of_block (w := w) eq).trans k.f2, k.oh.keep hk fun i e => hs i (.inr e), k.hF⟩
theorem Kd.below {w w' : World} {q b : Nat} {v h : Value} {K : List (Nat × Nat)} {H : List (List UInt8)} (k : Kd w q b v h K H) (hk : Below w.heap.size w w') : Kd w' q b v h K H := k.keep (Keep.ofBelow (S := fun _ => False) hk) fun _ _ e => e
theorem Kd.Flt {w : World} {q b : Nat} {v h : Value} {K : List (Nat × Nat)} {H : List (List UInt8)} (k : Kd w q b v h K H) : ∀ i, Kd.F q b v h i → i < w.heap.size := by
  rintro i (e | e)
  · exact k.td.Flt i e
  · exact k.oh.lt i e
def Nw (w : World) (q b : Nat) (v h v' h' : Value) : Prop := ∀ k, Kd.F q b v' h' k → Kd.F q b v h k ∨ w.heap.size ≤ k
theorem Nw.refl (w : World) (q b : Nat) (v h : Value) : Nw w q b v h v h := fun _ e => .inl e
set_option maxRecDepth 100000 in
set_option maxHeartbeats 4000000 in
theorem hashC_any {w : World} {q b : Nat} {v h : Value} {A K0 K : List (Nat × Nat)} {H0 H : List (List UInt8)} (k : Kd w q b v h K H) (kw : Kw A K0 H0 K H) (T : Tabs w) (hT : ∀ i, Kd.F q b v h i → 4 ≤ i) {x y n : Nat} (hn : 1 ≤ n) (hn2 : n ≤ 1099511627776) (hi : Tree.insF n 0 n x y = true) (hA : (x, y) ∈ A) (hc : can K0 (x, y) = true) (h4 : A.length ≤ 4096) :
    Calls Tryz.prog 66 #[.pointer (some ⟨q, 0, none⟩), .int .i64 (n : Int), sg x y] w fun r w' => r = .returned (sv (fld K0 H0 (x, y))) ∧ ∃ v' h' K' H', Kd w' q b v' h' K' H' ∧ Kw A K0 H0 K' H' ∧ Keep (Kd.F q b v h) w w' ∧ Nw w q b v h v' h' := by
  have hin := Tree.insF_in _ _ _ _ _ hi hn
  have hxy : x < y := by omega
  have hy : y ≤ 1099511627776 := by omega
  have S0 := SpI.new w x y
  have b0 := (Below.refl w.heap.size w).alloc (Nat.le_refl _) (.cells #[.int .i64 (x : Int), .int .i64 (y : Int)] 56)
  have k0 := k.below b0
  have D0 := k.below b0.drew
  have HK0 := hid k0
  have B0 := hid b0
  have i1 := fun w' => ends_any (x : Int) (y : Int) w'
  have HS := hid S0
  have KL := hid (Nat.le_trans (nodup_len K A kw.nd kw.sub) h4)
  have HKW := hid kw
  have HK := hid k
  by_cases hk : (x, y) ∈ K
  · obtain ⟨j, hj⟩ := List.getElem?_of_mem hk
    have hjl : j < K.length := (List.getElem?_eq_some_iff.1 hj).1
    have hjH : j < H.length := by rw [← kw.len]; exact hjl
    have hfl := kw.at (s := (x, y)) hxy hj (List.getElem?_eq_getElem hjH)
    have HFL := hid hfl
    obtain ⟨g, cap, e, h1, h2⟩ := k0.oh.cell (j := j) (u := sv H[j]) (by unfold svs; rw [List.getElem?_map, List.getElem?_eq_getElem hjH]; rfl)
    subst e
    obtain ⟨n', hn'⟩ : ∃ n', H.length = n' := ⟨_, rfl⟩
    have HN := hid hn'
    have x0 := And.intro k0.td.c1 (And.intro S0.c0 (And.intro S0.c1 (D0.td.yes hj)))
    have HJ := hid hj
    rw [hn'] at hjH
    have e1 : (j : Int) < (n' : Int) := by omega
    have e2 : (0 : Int) ≤ (j : Int) := by omega
    obtain ⟨R, hR⟩ : ∃ R, sv H[j] = .string R := ⟨_, rfl⟩
    have HR := hid hR
    rw [hR] at h1
    have HC := hid h1
    unfold Hid at HK0 HK
    rw [hn'] at HK0 HK
    have HK0 := hid HK0
    have HK := hid HK
    clear k b0 k0 D0 hk hj S0 hfl h1 hn' kw hR hi hin
    go_enter Tryz.func66, Tryz.ntmps66
    go_wp2
    go_region_held3 (fun w' => w'.cell? ⟨q, 1, none⟩ = some (.map (some b)) ∧ w'.cell? ⟨w.heap.size, 0, none⟩ = some (.int .i64 (x : Int)) ∧ w'.cell? ⟨w.heap.size, 1, none⟩ = some (.int .i64 (y : Int)) ∧ (Instr.lookup 76 (.map (some b)) (.agg #[.int .i64 (x : Int), .int .i64 (y : Int)]) true).run Tryz.prog w' = .ok (.tuple #[.int .i64 (j : Int), .bool true]) w') (first | exact x1 | exact x0) (first | (go_at_call 87; refine (i1 _).mono ?_; rintro r w1 ⟨rfl, b1⟩; have b1 := drewBelow8 b1; have B1 := hid (B0.out.trans (b1.mono B0.out.size)); have K1 := hid (HK0.out.below b1); have x1 := And.intro K1.out.td.c1 (And.intro (HS.out.below b1).c0 (And.intro (HS.out.below b1).c1 (K1.out.td.yes HJ.out))); have cc : w1.cell? ⟨g, j, none⟩ = some (.string R) := (b1.cell (p := ⟨g, j, none⟩) h2).trans HC.out; clear b1))
    have d2 := K1.out.c2
    clear x0 x1
    go_wp2
    go_ret
    exact ⟨by rw [← HFL.out]; exact congrArg Ending.returned HR.out.symm, _, _, _, _, K1.out, HKW.out, Keep.ofBelow B1.out, Nw.refl _ _ _ _ _⟩
  · have HKn := hid hk
    have x0 := And.intro k0.td.c1 (And.intro S0.c0 (And.intro S0.c1 (D0.td.no hxy hy hk)))
    have hcK : can K (x, y) = true := (kw.can x y hxy).trans hc
    have hh : hsB8 H = true := by unfold hsB8; rw [List.all_eq_true]; intro z hz; simp [kw.h32 z hz]
    have hfo := foldA_can hn hn2 hi kw.len KL.out hh hcK
    rw [kw.fld x y hxy hc] at hfo
    have hkw' := hid (kw.next (s := (x, y)) hxy hA hk hc)
    obtain ⟨R, hR⟩ : ∃ R : List UInt8, fld K0 H0 (x, y) = R := ⟨_, rfl⟩
    have HR := hid hR
    rw [hR] at hfo
    unfold Hid at hkw'
    rw [hR] at hkw' ⊢
    have hkw' := hid hkw'
    have lK : Hid (K.length ≤ 9223372036854775807) := by have := KL.out; unfold Hid; omega
    have lH : Hid (H.length ≤ 9223372036854775807) := by have := KL.out; rw [kw.len] at this; unfold Hid; omega
    obtain ⟨va, vc, hv, _, _⟩ := k0.td.own.shape
    obtain ⟨ha, hcap, hh', _, _⟩ := k0.oh.shape
    have i2 := fun w' (t : Td w' q b v K) (o : OwnM 1 w' h H.length (svs H)) (tt : Tabs w') => foldF_any (n : Int) (pmC K) H (x : Int) (y : Int) va ha vc hcap w' (by rw [List.length_map]; exact lK.out) lH.out (by have := t.own; rw [hv] at this; exact this.atP) (by rw [hh'] at o; exact OwnM.atC o) tt
    rw [hfo, List.length_map] at i2
    have HV := hid hv
    have HH := hid hh'
    have TT := hid (fun w' (bb : Below w.heap.size w w') => T.below bb T.lt)
    have hT' := hid hT
    rw [← kw.len] at i2
    have HLN := hid kw.len
    have HHL := KL.out
    obtain ⟨m, hm⟩ : ∃ m, K.length = m := ⟨_, rfl⟩
    have HM := hid hm
    rw [hm] at i2 HHL
    have I2 := hid i2
    have fact : ∀ w', Kd w' q b v h K H → w'.cell? ⟨q, 0, none⟩ = some (.slice va m vc) ∧ w'.cell? ⟨q, 2, none⟩ = some (.slice ha m hcap) := fun w' t => by
      have a1 := t.td.c0
      have a2 := t.c2
      rw [HV.out, HM.out] at a1
      rw [HH.out, ← HLN.out, HM.out] at a2
      exact ⟨a1, a2⟩
    have HFa := hid fact
    clear k b0 k0 D0 hk S0 kw hR hi hin hfo i2 hT T lK lH hv hh' hcK hh hm fact
    go_enter Tryz.func66, Tryz.ntmps66
    go_wp2
    go_region_held3 (fun w' => w'.cell? ⟨q, 1, none⟩ = some (.map (some b)) ∧ w'.cell? ⟨w.heap.size, 0, none⟩ = some (.int .i64 (x : Int)) ∧ w'.cell? ⟨w.heap.size, 1, none⟩ = some (.int .i64 (y : Int)) ∧ (Instr.lookup 76 (.map (some b)) (.agg #[.int .i64 (x : Int), .int .i64 (y : Int)]) true).run Tryz.prog w' = .ok (.tuple #[.int .i64 0, .bool false]) w') (first | exact x1 | exact x0) (first | (go_at_call 87; refine (i1 _).mono ?_; rintro r w1 ⟨rfl, b1⟩; have b1 := drewBelow8 b1; have B1 := hid (B0.out.trans (b1.mono B0.out.size)); have K1 := hid (HK0.out.below b1); have S1 := hid (HS.out.below b1); have x1 := And.intro K1.out.td.c1 (And.intro S1.out.c0 (And.intro S1.out.c1 (K1.out.td.no hxy hy HKn.out))); clear b1))
    clear x0 x1 i1
    have y0 := And.intro (HFa.out _ K1.out).1 (And.intro (HFa.out _ K1.out).2 (And.intro S1.out.c0 S1.out.c1))
    have z2 := I2.out w1.drew (K1.out.td.below (Below.refl _ _).drew) (show OwnM 1 w1.drew h m (svs H) by rw [← HM.out, HLN.out]; exact K1.out.oh.drew) (TT.out _ B1.out.drew)
    go_wp2
    go_region_held3 (fun w' => w'.cell? ⟨q, 0, none⟩ = some (.slice va m vc) ∧ w'.cell? ⟨q, 2, none⟩ = some (.slice ha m hcap) ∧ w'.cell? ⟨w.heap.size, 0, none⟩ = some (.int .i64 (x : Int)) ∧ w'.cell? ⟨w.heap.size, 1, none⟩ = some (.int .i64 (y : Int))) (first | exact y1 | exact y0) (first | (go_at_call 89; refine z2.mono ?_; rintro r w2 ⟨rfl, b2⟩; have b2 := drewBelow8 b2; have B2 := hid (B1.out.trans (b2.mono B1.out.size)); have K2 := hid (K1.out.below b2); have S2 := hid (S1.out.below b2); have y1 := And.intro (HFa.out _ K2.out).1 (And.intro (HFa.out _ K2.out).2 (And.intro S2.out.c0 S2.out.c1)); clear b2))
    have u0 := And.intro S2.out.c0 S2.out.c1
    have z3 := addC_any (K2.out.td.below (Below.refl _ _).drew) hxy hy HKn.out (by rw [HM.out]; omega)
    clear y0 y1 z2
    have K2c := K2.out
    go_wp2
    go_region_held3 (fun w' => w'.cell? ⟨w.heap.size, 0, none⟩ = some (.int .i64 (x : Int)) ∧ w'.cell? ⟨w.heap.size, 1, none⟩ = some (.int .i64 (y : Int))) (first | exact u1 | exact u0) (first | (go_at_call 64; refine z3.mono ?_; rintro r w3 ⟨rfl, v', D3, K3, a3, c3, f3⟩; have K3' : Keep (Td.F q b v) w2 w3 := ⟨K3.os, K3.tape, K3.output, K3.size, K3.block⟩; have S3 := hid (S2.out.keep K3' (fun e => by have := HK.out.td.Flt _ e; omega)); have u1 := And.intro S3.out.c0 S3.out.c1))
    have d2 : w3.cell? ⟨q, 2, none⟩ = some h := (c3 2 (by decide)).trans K2c.c2
    have e2 : w3.frozen? ⟨q, 2, none⟩ = false := (f3 2).trans K2c.f2
    have o3 := K2c.oh.keep K3' K2c.hF
    obtain ⟨h', w4, hap, O4, G4⟩ := append_txC w3 h H ⟨R.toArray⟩ o3 (by rw [← HLN.out, HM.out]; omega)
    have hq3 : q < w3.heap.size := D3.lt
    have e4 := G4.keep.block q hq3 (fun e => K2c.hF q e (.inl rfl))
    have d4 : w4.cell? ⟨q, 2, none⟩ = some h := (World.cell?_of_block (w := w3) e4).trans d2
    have g4 : w4.frozen? ⟨q, 2, none⟩ = false := (World.frozen?_of_block (w := w3) e4).trans e2
    have hsz := K3'.size
    have nv' : ∀ k, h'.ownBlock = some k → h.ownBlock = some k ∨ w3.heap.size ≤ k := Grow.alt' G4
    have hF' : ∀ k, h'.ownBlock = some k → ¬ Td.F q b v' k := fun k hk hf => by
      have hft := D3.Flt k hf
      rcases nv' k hk with h1 | h1
      · rcases hf with hf | hf | hf
        · exact K2c.hF k h1 (.inl hf)
        · exact K2c.hF k h1 (.inr (.inl hf))
        · rcases a3 k hf with h2 | h2
          · exact K2c.hF k h1 (.inr (.inr h2))
          · have h3 := K2c.oh.lt k h1
            have h4 : w2.heap.size ≤ k := h2
            omega
      · omega
    have hoff : ∀ k, Td.F q b v' k → ¬ h.ownBlock = some k := fun k hf h1 => by
      rcases hf with hf | hf | hf
      · exact K2c.hF k h1 (.inl hf)
      · exact K2c.hF k h1 (.inr (.inl hf))
      · rcases a3 k hf with h2 | h2
        · exact K2c.hF k h1 (.inr (.inr h2))
        · have h3 := K2c.oh.lt k h1
          have h4 : w2.heap.size ≤ k := h2
          omega
    have D4 := D3.keep G4.keep hoff
    obtain ⟨ha', hn', hc', rfl⟩ := ownM_sl O4
    have fin : Hid (Kd (w4.setCell ⟨q, 2, none⟩ (.slice ha' hn' hc')) q b v' (.slice ha' hn' hc') (K ++ [(x, y)]) (H ++ [R])) := by
      have k1 : Keep (fun k => k = q) w4 (w4.setCell ⟨q, 2, none⟩ (.slice ha' hn' hc')) := Keep.ofSet (S := fun k => k = q) w4 q 2 _ rfl
      obtain ⟨f, hf, hg⟩ := D4.mp
      refine ⟨⟨?_, ?_, ?_, D4.own.keep k1 (fun k hk e => D4.vq (e ▸ hk)), ⟨f, hf.keep k1 (fun e => D4.qb e.symm), hg⟩, D4.lo, D4.qb, D4.vq, D4.vb, ?_⟩, World.cell?_setCell_same' _ _ _ (by rw [d4]; rfl), ?_, O4.keep k1 (fun k hk e => hF' k hk (.inl e)), hF'⟩
      · exact (World.cell?_setCell_other _ _ _ _ (by simp)).trans D4.c0
      · exact (World.cell?_setCell_other _ _ _ _ (by simp)).trans D4.c1
      · rw [World.frozen?_setCell]; exact D4.f0
      · exact Nat.lt_of_lt_of_le D4.lt k1.size
      · rw [World.frozen?_setCell]; exact g4
    have kp : Hid (Keep (Kd.F q b v h) w (w4.setCell ⟨q, 2, none⟩ (.slice ha' hn' hc'))) :=
      (((Keep.ofBelow (S := Kd.F q b v h) B2.out).trans (K3'.mono (T := Kd.F q b v h) fun k _ e => .inl e) fun _ _ e => e).trans (G4.keep.mono (T := Kd.F q b v h) fun k _ e => .inr e) fun _ _ e => e).trans (Keep.ofSet (S := fun k => k = q) w4 q 2 _ rfl) fun k _ e => .inl (.inl e)
    have nwf : Hid (Nw w q b v h v' (.slice ha' hn' hc')) := by
      have z1 := B2.out.size
      rintro k ((e | e | e) | e)
      · exact .inl (.inl (.inl e))
      · exact .inl (.inl (.inr (.inl e)))
      · rcases a3 k e with h1 | h1
        · exact .inl (.inl (.inr (.inr h1)))
        · have h2 : w2.heap.size ≤ k := h1
          exact .inr (by omega)
      · rcases nv' k e with h1 | h1
        · exact .inl (.inr h1)
        · exact .inr (by omega)
    clear u0 u1 z3 K2c K3 K3' a3 c3 f3 D3 D4 o3 O4 G4 hF' hoff nv' e4
    go_wp2_with (at_builtin; go_must (refine Lib.wpList_append_run _ rfl _ _ 23 23 rfl _ _ rfl rfl _ _ hap ?_))
    go_ret
    exact ⟨rfl, _, _, _, _, fin.out, hkw'.out, kp.out, nwf.out⟩
end Chn
end Go.Proofs.YtenklmjeeejfdaaGreatDoor

namespace Go.Proofs.YtenklmjeeejfdaaGreatDoor
open Go.RowKit Go.Shelf
namespace Chn
def vpreC {α : Type} (f : α → List UInt8) (S : List α) (k : Nat) : List (List UInt8) := (S.take k).map f ++ List.replicate (S.length - k) []
theorem vpreC_zero {α : Type} (f : α → List UInt8) (S : List α) : vpreC f S 0 = List.replicate S.length [] := by simp [vpreC]
theorem vpreC_all {α : Type} (f : α → List UInt8) (S : List α) : vpreC f S S.length = S.map f := by simp [vpreC]
theorem vpreC_len {α : Type} (f : α → List UInt8) (S : List α) {k : Nat} (hk : k ≤ S.length) : (vpreC f S k).length = S.length := by simp [vpreC]; omega
theorem vpreC_set {α : Type} (f : α → List UInt8) (S : List α) {k : Nat} (hk : k < S.length) : (vpreC f S k).set k (f S[k]) = vpreC f S (k + 1) := by
  unfold vpreC
  obtain ⟨m, hm⟩ : ∃ m, S.length - k = m + 1 := ⟨S.length - k - 1, by omega⟩
  have h1 : ((S.take k).map f).length = k := by simp; omega
  rw [hm, show S.length - (k + 1) = m by omega, List.replicate_succ, List.set_append, if_neg (by omega), h1, Nat.sub_self, List.set_cons_zero, List.take_add_one, List.getElem?_eq_getElem hk, List.map_append, List.append_assoc]
  rfl
theorem tabs_keepC {S : Nat → Prop} {w w' : World} (T : Tabs w) (hk : Keep S w w') (hS : ∀ k, S k → 4 ≤ k) : Tabs w' := T.below (keep_belowC hk (B := 4) T.lt hS) (Nat.le_refl _)
theorem Nw.trans {w w' : World} {q b : Nat} {v h v' h' v2 h2 : Value} (n1 : Nw w q b v h v' h') (n2 : Nw w' q b v' h' v2 h2) (hs : w.heap.size ≤ w'.heap.size) : Nw w q b v h v2 h2 := fun k e => by
  rcases n2 k e with e1 | e1
  · exact n1 k e1
  · exact .inr (by omega)
structure Pf (w w' : World) (q b G : Nat) (v h v' h' vL : Value) (A K0 : List (Nat × Nat)) (H0 : List (List UInt8)) (L : List (Nat × Nat)) (k : Nat) (K : List (Nat × Nat)) (H : List (List UInt8)) : Prop where
  row : Row w' G (vpreC (fld K0 H0) L k)
  kd : Kd w' q b v' h' K H
  kw : Kw A K0 H0 K H
  kp : Keep (Kd.F q b v h) w w'
  nw : Nw w q b v h v' h'
  ow : OwnP w' vL L
  g0 : w.heap.size ≤ G
  gF : ¬ Kd.F q b v' h' G
  lF : ∀ i, vL.ownBlock = some i → ¬ Kd.F q b v' h' i
  lG : vL.ownBlock ≠ some G
theorem Pf.below {w w' w2 : World} {q b G : Nat} {v h v' h' vL : Value} {A K0 L K : List (Nat × Nat)} {H0 H : List (List UInt8)} {k : Nat} (p : Pf w w' q b G v h v' h' vL A K0 H0 L k K H) (hb : Below w'.heap.size w' w2) : Pf w w2 q b G v h v' h' vL A K0 H0 L k K H :=
  ⟨p.row.below hb p.row.lt, p.kd.below hb, p.kw, p.kp.trans (Keep.ofBelow (S := fun _ => False) hb) (fun _ _ e => e.elim), p.nw, p.ow.below hb, p.g0, p.gF, p.lF, p.lG⟩
theorem Pf.hash {w w' w2 : World} {q b G : Nat} {v h v' h' v2 h2 vL : Value} {A K0 L K K2 : List (Nat × Nat)} {H0 H H2 : List (List UInt8)} {k : Nat} (p : Pf w w' q b G v h v' h' vL A K0 H0 L k K H) (k2 : Kd w2 q b v2 h2 K2 H2) (kw : Kw A K0 H0 K2 H2) (kp : Keep (Kd.F q b v' h') w' w2) (nw : Nw w' q b v' h' v2 h2) : Pf w w2 q b G v h v2 h2 vL A K0 H0 L k K2 H2 := by
  have hs := p.kp.size
  refine ⟨?_, k2, kw, p.kp.trans kp (fun i hi e => (p.nw i e).resolve_right (by omega)), p.nw.trans nw hs, p.ow.keep kp p.lF, p.g0, fun e => ?_, fun i hi e => ?_, p.lG⟩
  · have := p.row
    unfold Row at this ⊢
    rw [kp.block G p.row.lt p.gF]
    exact this
  · rcases nw G e with e | e
    · exact p.gF e
    · have := p.row.lt; omega
  · rcases nw i e with e | e
    · exact p.lF i hi e
    · have := p.ow.lt i hi; omega
theorem Pf.put {w w' : World} {q b G : Nat} {v h v' h' vL : Value} {A K0 L K : List (Nat × Nat)} {H0 H : List (List UInt8)} {k : Nat} (p : Pf w w' q b G v h v' h' vL A K0 H0 L k K H) (hk : k < L.length) : Pf w (w'.setCell ⟨G, k, none⟩ (sv (fld K0 H0 L[k]))) q b G v h v' h' vL A K0 H0 L (k + 1) K H := by
  have k1 : Keep (fun i => i = G) w' (w'.setCell ⟨G, k, none⟩ (sv (fld K0 H0 L[k]))) := Keep.ofSet (S := fun i => i = G) w' G k _ rfl
  refine ⟨?_, p.kd.keep k1 (fun i e e2 => p.gF (e2 ▸ e)), p.kw, p.kp.trans k1 (fun i hi e => by have := p.g0; omega), p.nw, p.ow.keep k1 (fun i hi e => p.lG (e ▸ hi)), p.g0, p.gF, p.lF, p.lG⟩
  have := p.row.set k (fld K0 H0 L[k])
  rw [vpreC_set (fld K0 H0) L hk] at this
  exact this
set_option maxRecDepth 100000 in
set_option maxHeartbeats 4000000 in
theorem proofC_any {w : World} {q b : Nat} {v h : Value} {A K0 K : List (Nat × Nat)} {H0 H : List (List UInt8)} (kd : Kd w q b v h K H) (kw : Kw A K0 H0 K H) (T : Tabs w) (hT : ∀ i, Kd.F q b v h i → 4 ≤ i) {a n : Nat} (h1 : 1 ≤ a) (h2 : a ≤ n) (h3 : n ≤ 1099511627776) (hA : ∀ s ∈ prf a n, s ∈ A ∧ can K0 s = true) (h4 : A.length ≤ 4096) :
    Calls Tryz.prog 44 #[.pointer (some ⟨q, 0, none⟩), .int .i64 (a : Int), .int .i64 (n : Int)] w fun r w' => ∃ G v' h' K' H', r = .returned (.slice (some ⟨G, 0, none⟩) (prf a n).length (prf a n).length) ∧ Row w' G ((prf a n).map (fld K0 H0)) ∧ w.heap.size ≤ G ∧ Kd w' q b v' h' K' H' ∧ Kw A K0 H0 K' H' ∧ Keep (Kd.F q b v h) w w' ∧ Nw w q b v h v' h' ∧ ¬ Kd.F q b v' h' G := by
  have i1 := betweenC a n h1 h2 h3 w
  have hln := prf_len h1 h2 h3
  have hins := hid (fun s (hs : s ∈ prf a n) => prf_ins n 0 n a (Nat.le_refl _) (by omega) (by omega) (by omega) s hs)
  have HKD := hid kd
  have HKW := hid kw
  have HT := hid T
  have HTT := hid hT
  have HAA := hid hA
  have hTl := T.lt
  generalize prf a n = L at *
  obtain ⟨nl, hnl⟩ : ∃ nl, L.length = nl := ⟨_, rfl⟩
  have HNL := hid hnl
  rw [hnl] at hln ⊢
  clear kd kw T hT hA hnl
  go_enter Tryz.func44, Tryz.ntmps44
  have mk := fun w' => make_texts w' nl (by omega)
  go_wp2_with (go_at_call 62; refine i1.mono ?_; rintro r w1 ⟨b1, vL, rfl, OL, hvL⟩; obtain ⟨la, lc, hla, _, _⟩ := OL.shape; have B1 := hid b1; have HOL := hid OL; have HVL := hid hvL; subst hla; rw [HNL.out]; have mk1 := mk w1; clear b1 OL hvL)
  have z1 := B1.out.size
  have P0 : Hid (Pf w (w1.alloc (.cells (svs (List.replicate nl [])).toArray 9)) q b w1.heap.size v h v h (.slice la nl lc) A K0 H0 L 0 K H) := by
    have bA := (Below.refl w1.heap.size w1).alloc (Nat.le_refl _) (.cells (svs (List.replicate nl [])).toArray 9)
    have bb := B1.out.trans (bA.mono z1)
    refine ⟨?_, HKD.out.below bb, HKW.out, Keep.ofBelow bb, Nw.refl _ _ _ _ _, ?_, z1, fun e => ?_, fun i hi e => ?_, fun e => ?_⟩
    · have := heap_alloc_new w1 (.cells (svs (List.replicate nl [])).toArray 9)
      unfold Row
      rw [vpreC_zero, HNL.out]
      exact this
    · have := HOL.out.below bA
      rw [HNL.out] at this
      unfold OwnP
      rw [HNL.out]
      exact this
    · have := HKD.out.Flt _ e; omega
    · have := HKD.out.Flt _ e; have := HVL.out i (by rw [HNL.out]; exact hi); omega
    · have := HOL.out.lt w1.heap.size (by rw [HNL.out]; exact e); omega
  clear i1 mk mk1 HKD HKW HOL HVL
  go_loopw [9, 10, 19] (fun _ _ i w' => ∃ (k : Nat) (v' h' : Value) (K' : List (Nat × Nat)) (H' : List (List UInt8)), k ≤ nl ∧ i = .int .i64 (k : Int) ∧ Hid (Pf w w' q b w1.heap.size v h v' h' (.slice la nl lc) A K0 H0 L k K' H')) (fun _ _ i _ => nl - (intOf i).toNat)
  case atStart => exact ⟨0, v, h, K, H, by omega, rfl, P0⟩
  case round =>
    clear P0
    obtain ⟨k, v', h', K', H', hk, rfl, hP⟩ := hrel
    by_cases hkl : k < nl
    · have e0 : (k : Int) < (nl : Int) := by omega
      have e1 : (0 : Int) ≤ (k : Int) := by omega
      have hkL : k < L.length := by rw [HNL.out]; exact hkl
      have hpo := hP.out.ow
      unfold OwnP at hpo
      rw [HNL.out] at hpo
      obtain ⟨g, hg0, hg, c0, c1⟩ := ownP_atC (show OwnP wr (.slice la nl lc) L from hP.out.ow) (List.getElem?_eq_getElem hkL)
      subst hg0
      have hm := List.getElem_mem hkL
      have hin := hins.out _ hm
      have haa := HAA.out _ hm
      have bA := (Below.refl wr.heap.size wr).alloc (Nat.le_refl _) (.cells #[.int .i64 (L[k].1 : Int), .int .i64 (L[k].2 : Int)] 56)
      have PA := hid (hP.out.below bA)
      have hFt : ∀ i, Kd.F q b v' h' i → 4 ≤ i := fun i e => by
        rcases hP.out.nw i e with e | e
        · exact HTT.out i e
        · omega
      have TA : Tabs (wr.alloc (.cells #[.int .i64 (L[k].1 : Int), .int .i64 (L[k].2 : Int)] 56)) := tabs_keepC HT.out PA.out.kp HTT.out
      have i2 := hashC_any PA.out.kd PA.out.kw TA hFt (x := L[k].1) (y := L[k].2) (n := n) (by omega) h3 hin haa.1 haa.2 h4
      have ePut := hid (fun w2 v2 h2 K2 H2 (p : Pf w w2 q b w1.heap.size v h v2 h2 (.slice (some ⟨g, 0, none⟩) nl lc) A K0 H0 L k K2 H2) => p.put hkL)
      have rl : Hid (k < (vpreC (fld K0 H0) L k).length) := by unfold Hid; rw [vpreC_len _ _ (by omega)]; exact hkL
      rw [show (L[k].1, L[k].2) = L[k] from rfl] at i2
      obtain ⟨R, hR⟩ : ∃ R, sv (fld K0 H0 L[k]) = .string R := ⟨_, rfl⟩
      unfold Hid at ePut
      rw [hR] at i2 ePut
      have ePut := hid ePut
      generalize (L[k].1 : Int) = sx at *
      generalize (L[k].2 : Int) = sy at *
      clear hP hpo hm hin haa bA TA hFt hR
      go_wp2_with (go_at_call 66; refine i2.mono ?_; rintro r w2 ⟨rfl, v2, h2', K2, H2, kd2, kw2, kp2, nw2⟩; have P2 := hid (PA.out.hash kd2 kw2 kp2 nw2); have f2 := P2.out.row.free rl.out; have d2 := P2.out.row.cell (List.getElem?_eq_getElem rl.out); clear kd2 kw2 kp2 nw2)
      have P3 := hid (ePut.out _ _ _ _ _ P2.out)
      exact ⟨⟨k + 1, v2, h2', K2, H2, by omega, by go_num, P3⟩, by simp [intOf]; omega⟩
    · obtain rfl : k = nl := by omega
      have e0 : ¬ (k : Int) < (k : Int) := by omega
      go_wp2
      go_ret
      have hr := hP.out.row
      rw [← HNL.out, vpreC_all] at hr
      exact ⟨w1.heap.size, rfl, hr, z1, v', h', K', H', hP.out.kd, hP.out.kw, hP.out.kp, hP.out.nw, hP.out.gF⟩
end Chn
end Go.Proofs.YtenklmjeeejfdaaGreatDoor

namespace Go.Proofs.YtenklmjeeejfdaaGreatDoor
open Go.RowKit Go.Shelf
namespace Chn
def RowV (w : World) (G : Nat) (ty : TypeId) (cs : List Value) : Prop := w.heap[G]? = some (.cells cs.toArray ty (0, 0))
theorem RowV.lt {w : World} {G : Nat} {ty : TypeId} {cs : List Value} (h : RowV w G ty cs) : G < w.heap.size := lt_of_heap h
theorem RowV.cell {w : World} {G : Nat} {ty : TypeId} {cs : List Value} (h : RowV w G ty cs) {j : Nat} {v : Value} (hv : cs[j]? = some v) : w.cell? ⟨G, j, none⟩ = some v := by
  rw [cell_of_row _ _ _ _ _ _ h]; simp [hv]
theorem RowV.free {w : World} {G : Nat} {ty : TypeId} {cs : List Value} (h : RowV w G ty cs) {j : Nat} (hj : j < cs.length) : w.frozen? ⟨G, j, none⟩ = false := by
  have := (there_of_row h 0 cs.length (by simp)) j hj
  rw [Nat.zero_add] at this
  exact this.2
theorem RowV.below {w w' : World} {G B : Nat} {ty : TypeId} {cs : List Value} (h : RowV w G ty cs) (hb : Below B w w') (hB : G < B) : RowV w' G ty cs := by
  unfold RowV; rw [hb.block G hB]; exact h
theorem RowV.set {w : World} {G : Nat} {ty : TypeId} {cs : List Value} (h : RowV w G ty cs) (k : Nat) (v : Value) : RowV (w.setCell ⟨G, k, none⟩ v) G ty (cs.set k v) := by
  have e := setCell_eq_setRow w G k cs.toArray ty (0, 0) v h
  unfold RowV
  rw [e, setRow_heap _ _ _ _ _ _ h]
  refine congrArg (fun A => some (Obj.cells A ty (0, 0))) ?_
  simp
theorem infoSl12 : (Tryz.prog.info? 23).map (fun i => (i.zero, i.size, i.bytes)) = some (some (.slice none 0 0), 1, 24) := by kernel_rfl
theorem make_lists (w : World) (c : Nat) (hc : c ≤ 1000000) :
    (Instr.makeSlice 28 (.int .i64 (c : Int)) (.int .i64 (c : Int))).run Tryz.prog w = .ok (.slice (some ⟨w.heap.size, 0, none⟩) c c) (w.alloc (.cells (List.replicate c (.slice none 0 0)).toArray 23)) := by
  obtain ⟨i0, hi, hz0, hz1, hz2⟩ := info_parts infoSl12
  have h := run_make (P := Tryz.prog) w 28 23 i0 (.slice none 0 0) Tryz.underlying28 hi hz0 .i64 .i64 (c : Int) (c : Int) (by omega) (by omega) (by rw [hz2]; omega) (by omega)
  rw [Int.toNat_natCast, hz1, Nat.mul_one] at h
  have e : madeCells (Value.slice none 0 0).cells c = (List.replicate c (.slice none 0 0)).toArray := by
    apply Array.ext'
    rw [show (madeCells (Value.slice none 0 0).cells c).toList = List.replicate c (.slice none 0 0) from toList_madeCells_one _ _]
  rw [e] at h
  exact h
theorem make_lists' (w : World) (c : Nat) (hc : c ≤ 1000000) : ∃ w', (Instr.makeSlice 28 (.int .i64 (c : Int)) (.int .i64 (c : Int))).run Tryz.prog w = .ok (.slice (some ⟨w.heap.size, 0, none⟩) c c) w' ∧ RowV w' w.heap.size 23 (List.replicate c (.slice none 0 0)) ∧ Below w.heap.size w w' ∧ w'.heap.size = w.heap.size + 1 :=
  ⟨_, make_lists w c hc, heap_alloc_new w _, (Below.refl _ _).alloc (Nat.le_refl _) _, by simp⟩
def lst (g : Nat) (p : List (List UInt8)) : Value := .slice (some ⟨g, 0, none⟩) p.length p.length
def lsts (gs : List Nat) (ps : List (List (List UInt8))) (m : Nat) : List Value := List.zipWith lst gs ps ++ List.replicate (m - gs.length) (.slice none 0 0)
theorem lsts_len {gs : List Nat} {ps : List (List (List UInt8))} {m : Nat} (h1 : gs.length ≤ ps.length) (h2 : gs.length ≤ m) : (lsts gs ps m).length = m := by
  unfold lsts; rw [List.length_append, List.length_zipWith, List.length_replicate]; omega
theorem zip_more {gs : List Nat} {ps : List (List (List UInt8))} (h : gs.length < ps.length) (g : Nat) : List.zipWith lst (gs ++ [g]) ps = List.zipWith lst gs ps ++ [lst g (ps[gs.length]'h)] := by
  induction gs generalizing ps with
  | nil =>
    cases ps with
    | nil => simp at h
    | cons p ps => simp
  | cons a gs ih =>
    cases ps with
    | nil => simp at h
    | cons p ps =>
      simp only [List.cons_append, List.zipWith_cons_cons, List.cons.injEq, true_and]
      exact ih (by simpa using h)
theorem lsts_set {gs : List Nat} {ps : List (List (List UInt8))} {m : Nat} (h1 : gs.length < ps.length) (h2 : gs.length < m) (g : Nat) : (lsts gs ps m).set gs.length (lst g (ps[gs.length]'h1)) = lsts (gs ++ [g]) ps m := by
  unfold lsts
  obtain ⟨q, hq⟩ : ∃ q, m - gs.length = q + 1 := ⟨m - gs.length - 1, by omega⟩
  have hl : (List.zipWith lst gs ps).length = gs.length := by rw [List.length_zipWith]; omega
  rw [hq, zip_more h1, List.set_append, if_neg (by omega), hl, Nat.sub_self, List.replicate_succ, List.set_cons_zero, List.length_append, List.length_singleton, show m - (gs.length + 1) = q by omega, List.append_assoc]
  rfl
structure Lsts (w : World) (B : Nat) (gs : List Nat) (ps : List (List (List UInt8))) : Prop where
  row : ∀ (k g : Nat) (p : List (List UInt8)), gs[k]? = some g → ps[k]? = some p → Row w g p
  up : gs.Pairwise (· < ·)
  ge : ∀ g ∈ gs, B ≤ g ∧ g < w.heap.size
def LsP (w : World) (ps : List (List (List UInt8))) (r : Ending) (w' : World) : Prop := ∃ G gs, r = .returned (.tuple #[.slice (some ⟨G, 0, none⟩) ps.length ps.length, .int .i64 0]) ∧ RowV w' G 23 (List.zipWith lst gs ps) ∧ gs.length = ps.length ∧ Lsts w' (G + 1) gs ps ∧ w.heap.size ≤ G ∧ Below w.heap.size w w'
end Chn
end Go.Proofs.YtenklmjeeejfdaaGreatDoor

namespace Go.Proofs.YtenklmjeeejfdaaGreatDoor
open Go.RowKit Go.Shelf
namespace Chn
theorem results_rowC_tmp {P : Program} {fn : Func} {p u : Tmp} {ty : TypeId} (h : fn.results = #[.cell p ty, .tmp u]) (tmps : Array Value) (w : World) (g : Nat) (t : TypeId) (cs : Array Value) (fr : Nat × Nat) (d : TypeDesc)
    (hp : tmps.getD p undef = .pointer (some ⟨g, 0, none⟩)) (hg : w.heap[g]? = some (.cells cs t fr))
    (hu : P.underlying ty = some d) (hd : (match d with | .struct _ | .array _ _ => true | _ => false) = true) (hi : (P.info? ty).map (·.size) = some cs.size) :
    (results fn tmps).run P w = .ok (.tuple #[.agg cs, tmps.getD u undef]) w := by
  rw [results_cell_tmp h, hp]
  simp [asAddr, run_loadVar_row w g t ty cs fr d hg hu hd hi, Result.andThen]
theorem nen_txC (x : Addr) (n c : Nat) (w : World) : (binOp .eql 23 (.slice (some x) n c) (.slice none 0 0)).run Tryz.prog w = .ok (.bool false) w := by kernel_rfl
theorem een_txC (n c : Nat) (w : World) : (binOp .eql 23 (.slice none n c) (.slice none 0 0)).run Tryz.prog w = .ok (.bool true) w := by kernel_rfl
theorem own_emptyC (w : World) : OwnM 1 (w.alloc (.cells #[] 9)) (.slice (some ⟨w.heap.size, 0, none⟩) 0 0) 0 [] :=
  .inr ⟨w.heap.size, 0, rfl, Nat.le_refl _, by rw [maxLen]; omega, rfl, (fun j v hv => by simp at hv), (fun j hj => by omega), by simp⟩
set_option maxRecDepth 100000 in
set_option maxHeartbeats 4000000 in
theorem cloneT (a : Option Addr) (cap : Nat) (L : List (List UInt8)) (w : World) (hA : At w a L) (hlen : L.length ≤ 1000000) :
    Calls Tryz.prog 65 #[.slice a L.length cap] w fun r w' => ∃ v, r = .returned v ∧ OwnM 1 w' v L.length (svs L) ∧ (∀ k, v.ownBlock = some k → w.heap.size ≤ k) ∧ Below w.heap.size w w' := by
  cases a with
  | none =>
    have hL : L = [] := by
      cases L with
      | nil => rfl
      | cons x L =>
        obtain ⟨y, hy, _⟩ := hA 0 x rfl
        cases hy
    subst hL
    have he := een_txC 0 cap
    clear hA
    go_enter Tryz.func65, Tryz.ntmps65
    go_wp2
    go_ret
    exact ⟨_, rfl, OwnM.nil 1 _, (fun k hk => by cases hk), Below.refl _ _⟩
  | some x =>
    have b0 := (Below.refl w.heap.size w).alloc (Nat.le_refl _) (.cells #[] 9)
    obtain ⟨i0, hi, hz0, hz1, hz2⟩ := info_parts infoTx
    have hA0 : At _ (some x) L := hA.below b0 (Nat.le_refl _)
    have hsrc : Src Tryz.prog 1 23 (.slice (some x) L.length cap) L.length (svs L) (w.alloc (.cells #[] 9)) :=
      Src.ofSlice _ Tryz.underlying23 x L.length cap (svs L) (by rw [svs_length, Nat.mul_one]) (fun j u hj => by
        simp only [svs, List.getElem?_map, Option.map_eq_some_iff] at hj
        obtain ⟨p, hp, rfl⟩ := hj
        obtain ⟨y, hy, _, hc⟩ := hA0 j p hp
        obtain rfl := Option.some.inj hy
        exact hc) (fun u hu => by obtain ⟨p, _, rfl⟩ := List.mem_map.1 hu; rfl)
    obtain ⟨v', w', hap, hO, hG⟩ := run_append_M (P := Tryz.prog) _ 23 23 23 9 i0 (.string ⟨#[]⟩) Tryz.underlying23 hi hz0 hz1 rfl _ 0 [] (own_emptyC w) _ L.length (svs L) hsrc
      (by rw [hz2]; omega) (by rw [maxLen]; omega) (fun e => by cases e)
    rw [Nat.zero_add, List.nil_append] at hO
    have hne := nen_txC x L.length cap
    have HO := hid hO
    have HV : Hid (∀ k, v'.ownBlock = some k → w.heap.size ≤ k) := fun k hk => by
      rcases Grow.alt' hG k hk with e | e
      · have : some w.heap.size = some k := e
        have := Option.some.inj this
        omega
      · rw [size_alloc] at e; omega
    have HB : Hid (Below w.heap.size w w') := b0.trans (keep_belowC hG.keep (by simp) fun k e => by
      have : some w.heap.size = some k := e
      have := Option.some.inj this
      omega)
    generalize L.length = m at *
    clear hA hO hG b0 hA0 hsrc
    go_enter Tryz.func65, Tryz.ntmps65
    go_wp2_with (at_builtin; go_must (refine Lib.wpList_append_run _ rfl _ _ 23 23 rfl _ _ rfl rfl _ _ hap ?_))
    go_ret
    exact ⟨_, rfl, HO.out, HV.out, HB.out⟩
abbrev ch (a b : Value) : Value := .agg #[a, b]
def ChI (w : World) (g : Nat) (a b : Value) : Prop := w.heap[g]? = some (.cells #[a, b] 25 (0, 0))
theorem ChI.c0 {w : World} {g : Nat} {a b : Value} (h : ChI w g a b) : w.cell? ⟨g, 0, none⟩ = some a := by rw [cell_of_row w g 0 _ _ _ h]; rfl
theorem ChI.c1 {w : World} {g : Nat} {a b : Value} (h : ChI w g a b) : w.cell? ⟨g, 1, none⟩ = some b := by rw [cell_of_row w g 1 _ _ _ h]; rfl
theorem ChI.new (w : World) (a b : Value) : ChI (w.alloc (.cells #[a, b] 25)) w.heap.size a b := heap_alloc_new w _
theorem ChI.below {w w' : World} {g : Nat} {a b : Value} (h : ChI w g a b) (hb : Below w.heap.size w w') : ChI w' g a b := (hb.block g (lt_of_heap h)).trans h
def Kz (w : World) (g : Nat) : Prop := w.heap[g]? = some (.cells #[.slice none 0 0, .map none, .slice none 0 0] 81 (0, 0))
theorem Kz.below {w w' : World} {g : Nat} (h : Kz w g) (hb : Below w.heap.size w w') : Kz w' g := (hb.block g (lt_of_heap h)).trans h
theorem sizeKn (a b c : Value) : (Tryz.prog.info? 81).map (·.size) = some #[a, b, c].size := by kernel_rfl
def exE (cs : List Int) (H : List (List UInt8)) : Int := if mayB cs = true then (if H.length = (told (cs.map Int.toNat)).length ∧ hsB8 H = true then 0 else 131) else 130
theorem ix_toN (hs : List Nat) : (ix hs).map Int.toNat = hs := by
  unfold ix
  rw [List.map_map]
  exact List.map_id'' (fun i => Int.toNat_natCast i) hs
theorem Kz.set {w : World} {g : Nat} (h : Kz w g) : Kz (((w.setCell ⟨g, 0, none⟩ (.slice none 0 0)).setCell ⟨g, 1, none⟩ (.map none)).setCell ⟨g, 2, none⟩ (.slice none 0 0)) g := by
  have := heap_setCell_same _ g 2 _ _ (.slice none 0 0) (heap_setCell_same _ g 1 _ _ (.map none) (heap_setCell_same w g 0 _ _ (.slice none 0 0) h))
  exact this
theorem two_new (w : World) (A B : Value) : Hid (Kz ((w.alloc (.cells #[A, B] 25)).alloc (.cells #[.slice none 0 0, .map none, .slice none 0 0] 81)) (w.heap.size + 1)) := by
  have := heap_alloc_new (w.alloc (.cells #[A, B] 25)) (.cells #[.slice none 0 0, .map none, .slice none 0 0] 81)
  rw [size_alloc] at this
  exact this
set_option maxRecDepth 100000 in
set_option maxHeartbeats 2000000 in
theorem knownOf_no (cs : List Int) (m k : Nat) (hm : Hid (cs.length = m)) (ac ah : Option Addr) (cc chp : Nat) (w : World) (hA : AtI w ac cs) (lc : m ≤ 9223372036854775807) (he : mayB cs = false) :
    Calls Tryz.prog 43 #[ch (.slice ac m cc) (.slice ah k chp)] w fun r w' => r = .returned (.tuple #[.agg #[.slice none 0 0, .map none, .slice none 0 0], .int .i64 130]) ∧ Below w.heap.size w w' := by
  have s0 := ChI.new w (.slice ac m cc) (.slice ah k chp)
  have b0 := ((Below.refl w.heap.size w).alloc (Nat.le_refl _) (.cells #[.slice ac m cc, .slice ah k chp] 25)).alloc (by simp) (.cells #[.slice none 0 0, .map none, .slice none 0 0] 81)
  have S1 := hid (s0.below ((Below.refl _ _).alloc (Nat.le_refl _) (.cells #[.slice none 0 0, .map none, .slice none 0 0] 81)))
  have kz := two_new w (.slice ac m cc) (.slice ah k chp)
  have B0 := hid b0
  have c0 := S1.out.c0
  have i1 := mayBe_any cs ac cc ((w.alloc (.cells #[.slice ac m cc, .slice ah k chp] 25)).alloc (.cells #[.slice none 0 0, .map none, .slice none 0 0] 81)) (by rw [hm.out]; exact lc) (hA.below b0 (Nat.le_refl _))
  rw [he, hm.out] at i1
  have eE := hid (rfl : (130 : Int) = 130)
  clear hA b0 s0 he hm
  go_enter Tryz.func43, Tryz.ntmps43
  go_wp2_with (go_at_call 41; refine i1.mono ?_; rintro r w1 ⟨rfl, b1⟩; have B1 := hid (B0.out.trans (b1.mono B0.out.size)); have K1 := hid (kz.out.below b1); have C1 := hid (S1.out.below b1); have c1 := C1.out.c0; clear b1; have k0 : w1.cell? ⟨w.heap.size + 1, 0, none⟩ = some (.slice none 0 0) := (cell_of_row _ _ _ _ _ _ K1.out).trans rfl; have k1 : w1.cell? ⟨w.heap.size + 1, 1, none⟩ = some (.map none) := (cell_of_row _ _ _ _ _ _ K1.out).trans rfl; have k2 : w1.cell? ⟨w.heap.size + 1, 2, none⟩ = some (.slice none 0 0) := (cell_of_row _ _ _ _ _ _ K1.out).trans rfl; have l0 := frozen_of_row _ _ 0 _ _ K1.out; have l1 := frozen_of_row _ _ 1 _ _ K1.out; have l2 := frozen_of_row _ _ 2 _ _ K1.out)
  refine bodyPost_ret (results_rowC_tmp rfl _ _ (w.heap.size + 1) 81 _ (0, 0) _ rfl K1.out.set Tryz.underlying81 rfl (sizeKn _ _ _)) rfl ⟨rfl, ?_⟩
  exact Below.setCell (p := ⟨w.heap.size + 1, 2, none⟩) (Below.setCell (p := ⟨w.heap.size + 1, 1, none⟩) (Below.setCell (p := ⟨w.heap.size + 1, 0, none⟩) B1.out (by show w.heap.size ≤ w.heap.size + 1; omega) _) (by show w.heap.size ≤ w.heap.size + 1; omega) _) (by show w.heap.size ≤ w.heap.size + 1; omega) _
set_option maxRecDepth 100000 in
set_option maxHeartbeats 2000000 in
theorem knownOf_form (hs : List Nat) (HH : Hds hs) (H : List (List UInt8)) (m k t : Nat) (hm : Hid (hs.length = m)) (hk : Hid (H.length = k)) (HT : Hid ((told hs).length = t)) (ac ah : Option Addr) (cc chp : Nat) (w : World) (hA : AtI w ac (ix hs)) (hAh : At w ah H) (lh : k ≤ 9223372036854775807) (he : ¬ (k = t ∧ hsB8 H = true)) :
    Calls Tryz.prog 43 #[ch (.slice ac m cc) (.slice ah k chp)] w fun r w' => r = .returned (.tuple #[.agg #[.slice none 0 0, .map none, .slice none 0 0], .int .i64 131]) ∧ Below w.heap.size w w' := by
  have s0 := ChI.new w (.slice ac m cc) (.slice ah k chp)
  have b0 := ((Below.refl w.heap.size w).alloc (Nat.le_refl _) (.cells #[.slice ac m cc, .slice ah k chp] 25)).alloc (by simp) (.cells #[.slice none 0 0, .map none, .slice none 0 0] 81)
  have S1 := hid (s0.below ((Below.refl _ _).alloc (Nat.le_refl _) (.cells #[.slice none 0 0, .map none, .slice none 0 0] 81)))
  have kz := two_new w (.slice ac m cc) (.slice ah k chp)
  have B0 := hid b0
  have c0 := S1.out.c0
  have hxl : (ix hs).length = m := by rw [← hm.out]; simp [ix]
  have lm : m ≤ 64 := by rw [← hm.out]; exact HH.le
  have i1 := mayBe_any (ix hs) ac cc ((w.alloc (.cells #[.slice ac m cc, .slice ah k chp] 25)).alloc (.cells #[.slice none 0 0, .map none, .slice none 0 0] 81)) (by rw [hxl]; omega) (hA.below b0 (Nat.le_refl _))
  rw [hds_mayB HH, hxl] at i1
  have i2 := fun w' (bb : Below w.heap.size w w') => toldOf_any hs HH ac cc w' (hA.below bb (Nat.le_refl _))
  rw [hm.out] at i2
  have eE := hid (rfl : (131 : Int) = 131)
  by_cases hl : k = t
  · have hq : hsB8 H = false := by
      cases hc : hsB8 H with
      | false => rfl
      | true => exact absurd ⟨hl, hc⟩ he
    have i3 := fun w' (bb : Below w.heap.size w w') => areHashes13_is H false hq ah chp w' (by rw [hk.out]; exact lh) (hAh.below bb (Nat.le_refl _))
    rw [hk.out] at i3
    subst hl
    have z0 : ((k : Int) != (k : Int)) = false := by simp
    have z1 : ((k : Int) == (k : Int)) = true := by simp
    clear hA hAh b0 s0 he hm hk hq hxl lm
    go_enter Tryz.func43, Tryz.ntmps43
    go_wp2_with (first
      | (go_at_call 41; refine i1.mono ?_; rintro r w1 ⟨rfl, b1⟩; have B1 := hid (B0.out.trans (b1.mono B0.out.size)); have K1 := hid (kz.out.below b1); have C1 := hid (S1.out.below b1); have c1 := C1.out.c0; clear b1)
      | (go_at_call 42; refine (i2 _ B1.out).mono ?_; rintro r w2 ⟨v, b, rfl, tv, hb, hv, b2⟩; have bA := (Below.refl w2.heap.size w2).alloc (Nat.le_refl _) (.cells #[v, .map (some b)] 78); obtain ⟨va, vc, hva, _, _⟩ := tv.own.shape; have b3 := b2.trans (bA.mono b2.size); have B3 := hid (B1.out.trans (b3.mono B1.out.size)); have K3 := hid (K1.out.below b3); have C3 := hid (C1.out.below b3); have c3 := C3.out.c1; have TV := hid tv; have HV := hid hv; have HBA := hid bA; rw [HT.out] at hva; subst hva; have zq := Nat.lt_of_lt_of_le (lt_of_heap K1.out) b2.size; have zp := hid B1.out.size; have K2 := hid (K1.out.below b2); have B2 := hid (B1.out.trans (b2.mono B1.out.size)); have zh := hid hb; clear tv hv b2 bA b3)
      | (go_at_call 45; refine (i3 _ B3.out).mono ?_; rintro r w4 ⟨rfl, hw4⟩; have hw4 := hw4.symm; subst hw4; have k0 : w2.cell? ⟨w.heap.size + 1, 0, none⟩ = some (.slice none 0 0) := (cell_of_row _ _ _ _ _ _ K2.out).trans rfl; have k1 : w2.cell? ⟨w.heap.size + 1, 1, none⟩ = some (.map none) := (cell_of_row _ _ _ _ _ _ K2.out).trans rfl; have k2 : w2.cell? ⟨w.heap.size + 1, 2, none⟩ = some (.slice none 0 0) := (cell_of_row _ _ _ _ _ _ K2.out).trans rfl; have l0 := frozen_of_row _ _ 0 _ _ K2.out; have l1 := frozen_of_row _ _ 1 _ _ K2.out; have l2 := frozen_of_row _ _ 2 _ _ K2.out; have zn : ¬ w.heap.size + 1 = w2.heap.size := (by omega); have zn2 : ¬ w2.heap.size = w.heap.size + 1 := (by omega)))
    have b9 := (Below.setCell (p := ⟨w.heap.size + 1, 2, none⟩) (Below.setCell (p := ⟨w.heap.size + 1, 1, none⟩) (Below.setCell (p := ⟨w.heap.size + 1, 0, none⟩) B2.out (by show w.heap.size ≤ w.heap.size + 1; omega) (.slice none 0 0)) (by show w.heap.size ≤ w.heap.size + 1; omega) (.map none)) (by show w.heap.size ≤ w.heap.size + 1; omega) (.slice none 0 0))
    refine bodyPost_ret (results_rowC_tmp rfl _ _ (w.heap.size + 1) 81 _ (0, 0) _ rfl (K2.out.set.below ((Below.refl _ _).alloc (Nat.le_refl _) _)) Tryz.underlying81 rfl (sizeKn _ _ _)) rfl ⟨rfl, ?_⟩
    exact b9.alloc b9.size _
  · have z0 : ((k : Int) != (t : Int)) = true := by simp; omega
    have z1 : ((k : Int) == (t : Int)) = false := by simp; omega
    have z2 : ¬ (k : Int) = (t : Int) := by omega
    clear hA hAh b0 s0 he hm hk hxl lm
    go_enter Tryz.func43, Tryz.ntmps43
    go_wp2_with (first
      | (go_at_call 41; refine i1.mono ?_; rintro r w1 ⟨rfl, b1⟩; have B1 := hid (B0.out.trans (b1.mono B0.out.size)); have K1 := hid (kz.out.below b1); have C1 := hid (S1.out.below b1); have c1 := C1.out.c0; clear b1)
      | (go_at_call 42; refine (i2 _ B1.out).mono ?_; rintro r w2 ⟨v, b, rfl, tv, hb, hv, b2⟩; have bA := (Below.refl w2.heap.size w2).alloc (Nat.le_refl _) (.cells #[v, .map (some b)] 78); obtain ⟨va, vc, hva, _, _⟩ := tv.own.shape; have b3 := b2.trans (bA.mono b2.size); have B3 := hid (B1.out.trans (b3.mono B1.out.size)); have K3 := hid (K1.out.below b3); have C3 := hid (C1.out.below b3); have c3 := C3.out.c1; have TV := hid tv; have HV := hid hv; have HBA := hid bA; rw [HT.out] at hva; subst hva; have zq := Nat.lt_of_lt_of_le (lt_of_heap K1.out) b2.size; have zp := hid B1.out.size; have K2 := hid (K1.out.below b2); have B2 := hid (B1.out.trans (b2.mono B1.out.size)); have zh := hid hb; clear tv hv b2 bA b3; have k0 : w2.cell? ⟨w.heap.size + 1, 0, none⟩ = some (.slice none 0 0) := (cell_of_row _ _ _ _ _ _ K2.out).trans rfl; have k1 : w2.cell? ⟨w.heap.size + 1, 1, none⟩ = some (.map none) := (cell_of_row _ _ _ _ _ _ K2.out).trans rfl; have k2 : w2.cell? ⟨w.heap.size + 1, 2, none⟩ = some (.slice none 0 0) := (cell_of_row _ _ _ _ _ _ K2.out).trans rfl; have l0 := frozen_of_row _ _ 0 _ _ K2.out; have l1 := frozen_of_row _ _ 1 _ _ K2.out; have l2 := frozen_of_row _ _ 2 _ _ K2.out; have zn : ¬ w.heap.size + 1 = w2.heap.size := (by omega); have zn2 : ¬ w2.heap.size = w.heap.size + 1 := (by omega)))
    have b9 := (Below.setCell (p := ⟨w.heap.size + 1, 2, none⟩) (Below.setCell (p := ⟨w.heap.size + 1, 1, none⟩) (Below.setCell (p := ⟨w.heap.size + 1, 0, none⟩) B2.out (by show w.heap.size ≤ w.heap.size + 1; omega) (.slice none 0 0)) (by show w.heap.size ≤ w.heap.size + 1; omega) (.map none)) (by show w.heap.size ≤ w.heap.size + 1; omega) (.slice none 0 0))
    refine bodyPost_ret (results_rowC_tmp rfl _ _ (w.heap.size + 1) 81 _ (0, 0) _ rfl (K2.out.set.below ((Below.refl _ _).alloc (Nat.le_refl _) _)) Tryz.underlying81 rfl (sizeKn _ _ _)) rfl ⟨rfl, ?_⟩
    exact b9.alloc b9.size _
structure Kv (w w' : World) (b : Nat) (v h : Value) (K : List (Nat × Nat)) (H : List (List UInt8)) : Prop where
  tv : Tv w' b v K
  oh : OwnM 1 w' h H.length (svs H)
  b0 : w.heap.size ≤ b
  v0 : ∀ k, v.ownBlock = some k → w.heap.size ≤ k
  h0 : ∀ k, h.ownBlock = some k → w.heap.size ≤ k
  hb : h.ownBlock ≠ some b
  hv : ∀ k, h.ownBlock = some k → v.ownBlock ≠ some k
  bel : Below w.heap.size w w'
set_option maxRecDepth 100000 in
set_option maxHeartbeats 2000000 in
theorem knownOf_ok (hs : List Nat) (HH : Hds hs) (H : List (List UInt8)) (m k : Nat) (hm : Hid (hs.length = m)) (hk : Hid (H.length = k)) (HT : Hid ((told hs).length = k)) (ac ah : Option Addr) (cc chp : Nat) (w : World) (hA : AtI w ac (ix hs)) (hAh : At w ah H) (hq : hsB8 H = true) :
    Calls Tryz.prog 43 #[ch (.slice ac m cc) (.slice ah k chp)] w fun r w' => ∃ v b h, r = .returned (.tuple #[.agg #[v, .map (some b), h], .int .i64 0]) ∧ Kv w w' b v h (told hs) H := by
  have s0 := ChI.new w (.slice ac m cc) (.slice ah k chp)
  have b0 := ((Below.refl w.heap.size w).alloc (Nat.le_refl _) (.cells #[.slice ac m cc, .slice ah k chp] 25)).alloc (by simp) (.cells #[.slice none 0 0, .map none, .slice none 0 0] 81)
  have S1 := hid (s0.below ((Below.refl _ _).alloc (Nat.le_refl _) (.cells #[.slice none 0 0, .map none, .slice none 0 0] 81)))
  have kz := two_new w (.slice ac m cc) (.slice ah k chp)
  have B0 := hid b0
  have c0 := S1.out.c0
  have hxl : (ix hs).length = m := by rw [← hm.out]; simp [ix]
  have lm : m ≤ 64 := by rw [← hm.out]; exact HH.le
  have lk : k ≤ 2583 := by rw [← HT.out]; exact tol_few HH (by have := HH.ne; omega)
  have i1 := mayBe_any (ix hs) ac cc ((w.alloc (.cells #[.slice ac m cc, .slice ah k chp] 25)).alloc (.cells #[.slice none 0 0, .map none, .slice none 0 0] 81)) (by rw [hxl]; omega) (hA.below b0 (Nat.le_refl _))
  rw [hds_mayB HH, hxl] at i1
  have i2 := fun w' (bb : Below w.heap.size w w') => toldOf_any hs HH ac cc w' (hA.below bb (Nat.le_refl _))
  rw [hm.out] at i2
  have i3 := fun w' (bb : Below w.heap.size w w') => areHashes13_is H true hq ah chp w' (by rw [hk.out]; omega) (hAh.below bb (Nat.le_refl _))
  rw [hk.out] at i3
  have i4 := fun w' (bb : Below w.heap.size w w') => cloneT ah chp H w' (hAh.below bb (Nat.le_refl _)) (by rw [hk.out]; omega)
  rw [hk.out] at i4
  have z0 : ((k : Int) != (k : Int)) = false := by simp
  have z1 : ((k : Int) == (k : Int)) = true := by simp
  generalize told hs = TT at *
  clear hA hAh b0 s0 hm hq hxl lm
  go_enter Tryz.func43, Tryz.ntmps43
  go_wp2_with (first
    | (go_at_call 41; refine i1.mono ?_; rintro r w1 ⟨rfl, b1⟩; have B1 := hid (B0.out.trans (b1.mono B0.out.size)); have K1 := hid (kz.out.below b1); have C1 := hid (S1.out.below b1); have c1 := C1.out.c0; clear b1)
    | (go_at_call 42; refine (i2 _ B1.out).mono ?_; rintro r w2 ⟨v, b, rfl, tv, hb, hv, b2⟩; have bA := (Below.refl w2.heap.size w2).alloc (Nat.le_refl _) (.cells #[v, .map (some b)] 78); obtain ⟨va, vc, hva, _, _⟩ := tv.own.shape; have b3 := b2.trans (bA.mono b2.size); have B3 := hid (B1.out.trans (b3.mono B1.out.size)); have K3 := hid (K1.out.below b3); have C3 := hid (C1.out.below b3); have c3 := C3.out.c1; have TV := hid tv; have HV := hid hv; have HBA := hid bA; rw [HT.out] at hva; subst hva; have zq := Nat.lt_of_lt_of_le (lt_of_heap K1.out) b2.size; have zp := hid B1.out.size; have K2 := hid (K1.out.below b2); have B2 := hid (B1.out.trans (b2.mono B1.out.size)); have zh := hid hb; clear tv hv b2 bA b3)
    | (go_at_call 45; refine (i3 _ B3.out).mono ?_; rintro r w4 ⟨rfl, hw4⟩; have hw4 := hw4.symm; subst hw4))
  have R3 : Hid ((w2.alloc (.cells #[.slice va k vc, .map (some b)] 78)).heap[w2.heap.size]? = some (.cells #[.slice va k vc, .map (some b)] 78 (0, 0))) := heap_alloc_new w2 _
  have zb := TV.out.lt
  have T3 := hid (TV.out.below HBA.out)
  have zw := HBA.out.size
  generalize hw3 : (w2.alloc (.cells #[.slice va k vc, .map (some b)] 78)) = w3 at *
  have zs : w3.heap.size = w2.heap.size + 1 := by rw [← hw3]; simp
  have ZS := hid zs
  have fact : ∀ w', Below w3.heap.size w3 w' → w'.cell? ⟨w2.heap.size, 0, none⟩ = some (.slice va k vc) ∧ w'.cell? ⟨w2.heap.size, 1, none⟩ = some (.map (some b)) ∧ w'.cell? ⟨w.heap.size, 1, none⟩ = some (.slice ah k chp) := fun w' hb' => by
    have r3 := (hb'.block w2.heap.size (by omega)).trans R3.out
    refine ⟨?_, ?_, (C3.out.below hb').c1⟩
    · rw [cell_of_row _ _ _ _ _ _ r3]; rfl
    · rw [cell_of_row _ _ _ _ _ _ r3]; rfl
  have HF := hid fact
  have x0 := fact w3 (Below.refl _ _)
  clear fact hw3 zs
  have i5 := i4 w3.drew B3.out.drew
  clear i1 i2 i3 i4 c0 c1 c3
  go_region_held3 (fun w' => w'.cell? ⟨w2.heap.size, 0, none⟩ = some (.slice va k vc) ∧ w'.cell? ⟨w2.heap.size, 1, none⟩ = some (.map (some b)) ∧ w'.cell? ⟨w.heap.size, 1, none⟩ = some (.slice ah k chp)) (first | exact x1 | exact x0 | exact x2) (first | (go_at_call 65; refine i5.mono ?_; rintro r w4 ⟨h, rfl, oh, hn, b4⟩; have b4 := drewBelow8 b4; have x1 := HF.out _ b4; have K4 := hid (K3.out.below b4); have B4 := hid (B3.out.trans (b4.mono B3.out.size)); obtain ⟨ha, hc, hh, _, _⟩ := oh.shape; have OH := hid oh; have HN := hid hn; have T4 := hid (T3.out.below b4); have HB4 := hid b4; subst hh; have x2 := And.intro ((World.cell?_setCell_far _ ⟨w.heap.size + 1, 2, none⟩ ⟨w2.heap.size, 0, none⟩ (.slice ha k hc) (by show w.heap.size + 1 ≠ w2.heap.size; omega)).trans ((World.cell?_setCell_far _ ⟨w.heap.size + 1, 1, none⟩ ⟨w2.heap.size, 0, none⟩ (.map (some b)) (by show w.heap.size + 1 ≠ w2.heap.size; omega)).trans ((World.cell?_setCell_far w4 ⟨w.heap.size + 1, 0, none⟩ ⟨w2.heap.size, 0, none⟩ (.slice va k vc) (by show w.heap.size + 1 ≠ w2.heap.size; omega)).trans x1.1))) (And.intro ((World.cell?_setCell_far _ ⟨w.heap.size + 1, 2, none⟩ ⟨w2.heap.size, 1, none⟩ (.slice ha k hc) (by show w.heap.size + 1 ≠ w2.heap.size; omega)).trans ((World.cell?_setCell_far _ ⟨w.heap.size + 1, 1, none⟩ ⟨w2.heap.size, 1, none⟩ (.map (some b)) (by show w.heap.size + 1 ≠ w2.heap.size; omega)).trans ((World.cell?_setCell_far w4 ⟨w.heap.size + 1, 0, none⟩ ⟨w2.heap.size, 1, none⟩ (.slice va k vc) (by show w.heap.size + 1 ≠ w2.heap.size; omega)).trans x1.2.1))) ((World.cell?_setCell_far _ ⟨w.heap.size + 1, 2, none⟩ ⟨w.heap.size, 1, none⟩ (.slice ha k hc) (by show w.heap.size + 1 ≠ w.heap.size; omega)).trans ((World.cell?_setCell_far _ ⟨w.heap.size + 1, 1, none⟩ ⟨w.heap.size, 1, none⟩ (.map (some b)) (by show w.heap.size + 1 ≠ w.heap.size; omega)).trans ((World.cell?_setCell_far w4 ⟨w.heap.size + 1, 0, none⟩ ⟨w.heap.size, 1, none⟩ (.slice va k vc) (by show w.heap.size + 1 ≠ w.heap.size; omega)).trans x1.2.2)))); have k0 : w4.cell? ⟨w.heap.size + 1, 0, none⟩ = some (.slice none 0 0) := (cell_of_row _ _ _ _ _ _ K4.out).trans rfl; have k1 : w4.cell? ⟨w.heap.size + 1, 1, none⟩ = some (.map none) := (cell_of_row _ _ _ _ _ _ K4.out).trans rfl; have k2 : w4.cell? ⟨w.heap.size + 1, 2, none⟩ = some (.slice none 0 0) := (cell_of_row _ _ _ _ _ _ K4.out).trans rfl; have l0 := frozen_of_row _ _ 0 _ _ K4.out; have l1 := frozen_of_row _ _ 1 _ _ K4.out; have l2 := frozen_of_row _ _ 2 _ _ K4.out; clear oh hn b4))
  go_wp2
  have R5 := heap_setCell_same _ (w.heap.size + 1) 2 _ _ (.slice ha k hc) (heap_setCell_same _ (w.heap.size + 1) 1 _ _ (.map (some b)) (heap_setCell_same w4 (w.heap.size + 1) 0 _ _ (.slice va k vc) K4.out))
  have k9 : Keep (fun i => i = w.heap.size + 1) w4 (((w4.setCell ⟨w.heap.size + 1, 0, none⟩ (.slice va k vc)).setCell ⟨w.heap.size + 1, 1, none⟩ (.map (some b))).setCell ⟨w.heap.size + 1, 2, none⟩ (.slice ha k hc)) := ((Keep.ofSet (S := fun i => i = w.heap.size + 1) w4 (w.heap.size + 1) 0 (.slice va k vc) rfl).trans (Keep.ofSet (S := fun i => i = w.heap.size + 1) _ (w.heap.size + 1) 1 (.map (some b)) rfl) fun _ _ e => e).trans (Keep.ofSet (S := fun i => i = w.heap.size + 1) _ (w.heap.size + 1) 2 (.slice ha k hc) rfl) fun _ _ e => e
  have hv1 : ∀ i, (Value.slice va k vc).ownBlock = some i → w1.heap.size ≤ i ∧ i < w2.heap.size := fun i hi => ⟨HV.out i hi, TV.out.own.lt i hi⟩
  have zk1 := lt_of_heap K1.out
  have hzb := zh.out
  have zs := ZS.out
  have hn1 : ∀ i, (Value.slice ha k hc).ownBlock = some i → w3.heap.size ≤ i := HN.out
  have b9 : Below w.heap.size w (((w4.setCell ⟨w.heap.size + 1, 0, none⟩ (.slice va k vc)).setCell ⟨w.heap.size + 1, 1, none⟩ (.map (some b))).setCell ⟨w.heap.size + 1, 2, none⟩ (.slice ha k hc)) := B4.out.trans (keep_belowC k9 B4.out.size fun i e => by omega)
  obtain ⟨f, hf, hg⟩ := T4.out.mp
  refine bodyPost_ret (results_rowC_tmp rfl _ _ (w.heap.size + 1) 81 _ (0, 0) _ rfl R5 Tryz.underlying81 rfl (sizeKn _ _ _)) rfl ⟨_, _, _, rfl, ⟨⟨T4.out.own.keep k9 (fun i hi e => by have := hv1 i hi; omega), ⟨f, hf.keep k9 (fun e => by omega), hg⟩, T4.out.lo, T4.out.vb⟩, ?_, by have := zp.out; omega, ?_, ?_, ?_, ?_, b9⟩⟩
  · rw [hk.out]
    exact OH.out.keep k9 (fun i hi e => by have := hn1 i hi; omega)
  · intro i hi
    have := hv1 i hi
    have := zp.out
    omega
  · intro i hi
    have := hn1 i hi
    have := zp.out
    omega
  · intro e
    have := hn1 b e
    omega
  · intro i hi e
    have := hn1 i hi
    have := hv1 i e
    omega
end Chn
end Go.Proofs.YtenklmjeeejfdaaGreatDoor
