import Derived.Test.YtfddkmkibfmmgaaDoorCTL41
namespace Go.Proofs.YtfddkmkibfmmgaaDoor
open Go.RowKit
theorem Own.sl {w : World} {base : Nat} {v : Value} {cs : List Value} (h : Own w base v cs) : ∃ a n c, v = .slice a n c := by
  obtain ⟨a, c, e⟩ := h.shape
  exact ⟨a, _, c, e⟩
namespace Wb
theorem infoLS : (Tryd.prog.info? 33).map (fun i => (i.zero, i.size, i.bytes)) = some (some (.slice none 0 0), 1, 24) := by kernel_rfl
set_option maxRecDepth 100000 in
set_option maxHeartbeats 2000000 in
theorem growsT_any (mv : Nat → Value) (MB : ByteArray) (X i l : Nat) (ρ : Rol) (v x : Value) (GS : List Value) (w : World) (hmv : Hid (mv i = .string MB)) (h : Fam w X ρ 1 mv v GS) (hlt : Lt w X ρ) (hx : Xs w X ρ 1 mv i l x) (hG : GS.length = 6 * i) (hi : i ≤ 1000) (hl : l ≤ 1100000) (hX : X ≤ w.heap.size) :
    Calls Tryd.prog 58 #[v, x, .string MB] w fun r w' => ∃ v' ρ' GS', r = .returned v' ∧ Fam w' X ρ' 1 mv v' GS' ∧ GS'.length = 6 * (i + 1) ∧ Mv 1 X w ρ w' ρ' := by
  obtain ⟨va, vn, vc, rfl⟩ := h.own.sl
  obtain ⟨xa, xn, xc, rfl⟩ := hx.own.sl
  obtain ⟨v2, w2, hap2, hO2, hG2⟩ := append_one 64 33 (.slice none 0 0) 24 (by decide) Tryd.underlying64 infoLS rfl w X (.slice va vn vc) GS (.slice xa xn xc) rfl h.own (by omega) hX
  obtain ⟨ρ2, F2, M2, E2⟩ := h.push hlt hG2 hO2 (by rw [hG, Nat.mul_div_cancel_left i (by omega)]; exact hx.en (by omega))
  have X2 : Xs w2 X ρ2 1 mv i l (.slice xa xn xc) := hx.ext hG2.size (fun k hk => hG2.old k (hx.own.lt k hk) fun e => by have := h.rl k e; rw [hx.rl k hk] at this; cases this) E2
  have I2 : Hid (∃ (ρ' : Rol) (GS' : List Value), Fam w2 X ρ' 1 mv v2 GS' ∧ Xs w2 X ρ' 1 mv i (l + 0) (.slice xa xn xc) ∧ GS'.length = 6 * i + 1 + min 0 4 ∧ Mv 1 X w ρ w2 ρ') := ⟨ρ2, _, F2, X2, by simp [hG], M2⟩
  have Hlt := hid hlt
  clear F2 M2 E2 X2 hO2 hG2 h hx hlt
  go_enter Tryd.func58, Tryd.ntmps58
  go_wp2_with ((with_reducible show wpList _ _ _ (Oper.mk _ (Op.call { callee := Callee.builtin Builtin.append, args := _, argTypes := #[64, 64] }) _ _ _ _ :: _) _ _); go_must (refine Lib.wpList_append_run _ rfl _ _ 64 64 rfl _ _ rfl rfl _ _ hap2 ?_))
  clear hap2
  go_loopw [0, 1, 7] (fun all li ii w' => ∃ k : Nat, k ≤ 40 ∧ ii = .int .i64 (k : Int) ∧ Hid (∃ (ρ' : Rol) (GS' : List Value), Fam w' X ρ' 1 mv all GS' ∧ Xs w' X ρ' 1 mv i (l + k) li ∧ GS'.length = 6 * i + 1 + min k 4 ∧ Mv 1 X w ρ w' ρ')) (fun _ _ ii _ => 40 - (intOf ii).toNat)
  case atStart => exact ⟨0, by omega, rfl, I2⟩
  case round =>
    clear I2
    obtain ⟨k, hk, rfl, hI⟩ := hrel
    obtain ⟨ρ1, G1, F1, X1, hl1, M1⟩ := hI.out
    have L1 := M1.lt Hlt.out
    have S1 := Nat.le_trans hX M1.keep.size
    obtain ⟨ga, gn, gc, rfl⟩ := F1.own.sl
    obtain ⟨ya, yn, yc, rfl⟩ := X1.own.sl
    by_cases hk40 : k < 40
    · have b0 : (k : Int) < 40 := by omega
      obtain ⟨x3, w3, hap1, hO3, hG3⟩ := append_one 33 9 (.string ⟨#[]⟩) 16 (by decide) Tryd.underlying33 infoS rfl wr X (.slice ya yn yc) (List.replicate (l + k) (mv i)) (.string MB) rfl X1.own (by rw [List.length_replicate]; omega) S1
      rw [← hmv.out, ← List.replicate_succ'] at hO3
      obtain ⟨ρ3, F3, X3, M3⟩ := F1.growX L1 X1 (by omega) hG3 hO3
      have L3 := M3.lt L1
      have M13 := M1.trans M3
      have S3 := Nat.le_trans hX M13.keep.size
      obtain ⟨za, zn, zc, rfl⟩ := X3.own.sl
      by_cases hk4 : k < 4
      · have b1 : (k : Int) < 4 := by omega
        obtain ⟨v4, w4, hap2, hO4, hG4⟩ := append_one 64 33 (.slice none 0 0) 24 (by decide) Tryd.underlying64 infoLS rfl w3 X (.slice ga gn gc) G1 (.slice za zn zc) rfl F3.own (by omega) S3
        obtain ⟨ρ4, F4, M4, E4⟩ := F3.push L3 hG4 hO4 (by rw [show G1.length / 6 = i from by omega]; exact X3.en (by omega))
        have X4 : Xs w4 X ρ4 1 mv i (l + k + 1) (.slice za zn zc) := X3.ext hG4.size (fun j hj => hG4.old j (X3.own.lt j hj) fun e => by have := F3.rl j e; rw [X3.rl j hj] at this; cases this) E4
        have I4 : Hid (∃ (ρ' : Rol) (GS' : List Value), Fam w4 X ρ' 1 mv v4 GS' ∧ Xs w4 X ρ' 1 mv i (l + (k + 1)) (.slice za zn zc) ∧ GS'.length = 6 * i + 1 + min (k + 1) 4 ∧ Mv 1 X w ρ w4 ρ') := ⟨ρ4, _, F4, X4, by rw [List.length_append]; simp; omega, M13.trans M4⟩
        clear F1 X1 M1 L1 F3 X3 M3 L3 M13 F4 M4 E4 X4 hO3 hG3 hO4 hG4 hI hl1 Hlt hmv
        go_wp2_with (first
          | ((with_reducible show wpList _ _ _ (Oper.mk _ (Op.call { callee := Callee.builtin Builtin.append, args := _, argTypes := #[33, 33] }) _ _ _ _ :: _) _ _); go_must (refine Lib.wpList_append_run _ rfl _ _ 33 33 rfl _ _ rfl rfl _ _ hap1 ?_))
          | ((with_reducible show wpList _ _ _ (Oper.mk _ (Op.call { callee := Callee.builtin Builtin.append, args := _, argTypes := #[64, 64] }) _ _ _ _ :: _) _ _); go_must (refine Lib.wpList_append_run _ rfl _ _ 64 64 rfl _ _ rfl rfl _ _ hap2 ?_)))
        refine ⟨?_, by simp [intOf]; omega⟩
        first
          | exact ⟨k + 1, by omega, by go_num, I4⟩
          | (repeat apply Exists.intro
             exact ⟨⟨k + 1, by omega, by go_num, I4⟩, rfl⟩)
      · have b1 : ¬ (k : Int) < 4 := by omega
        have I4 : Hid (∃ (ρ' : Rol) (GS' : List Value), Fam w3 X ρ' 1 mv (.slice ga gn gc) GS' ∧ Xs w3 X ρ' 1 mv i (l + (k + 1)) (.slice za zn zc) ∧ GS'.length = 6 * i + 1 + min (k + 1) 4 ∧ Mv 1 X w ρ w3 ρ') := ⟨ρ3, _, F3, X3, by omega, M13⟩
        clear F1 X1 M1 L1 F3 X3 M3 L3 M13 hO3 hG3 hI hl1 Hlt hmv
        go_wp2_with ((with_reducible show wpList _ _ _ (Oper.mk _ (Op.call { callee := Callee.builtin Builtin.append, args := _, argTypes := #[33, 33] }) _ _ _ _ :: _) _ _); go_must (refine Lib.wpList_append_run _ rfl _ _ 33 33 rfl _ _ rfl rfl _ _ hap1 ?_))
        refine ⟨?_, by simp [intOf]; omega⟩
        first
          | exact ⟨k + 1, by omega, by go_num, I4⟩
          | (repeat apply Exists.intro
             exact ⟨⟨k + 1, by omega, by go_num, I4⟩, rfl⟩)
    · obtain rfl : k = 40 := by omega
      have b0 : ¬ ((40 : Nat) : Int) < 40 := by omega
      obtain ⟨v4, w4, hap2, hO4, hG4⟩ := append_one 64 33 (.slice none 0 0) 24 (by decide) Tryd.underlying64 infoLS rfl wr X (.slice ga gn gc) G1 (.slice ya yn yc) rfl F1.own (by omega) S1
      obtain ⟨ρ4, F4, M4, E4⟩ := F1.push L1 hG4 hO4 (by rw [show G1.length / 6 = i from by omega]; exact X1.en (by omega))
      have res : Hid (∃ ρ' GS', Fam w4 X ρ' 1 mv v4 GS' ∧ GS'.length = 6 * (i + 1) ∧ Mv 1 X w ρ w4 ρ') := ⟨ρ4, _, F4, by rw [List.length_append]; simp; omega, M1.trans M4⟩
      clear F1 X1 M1 L1 F4 M4 E4 hO4 hG4 hI hl1 Hlt hmv
      go_wp2_with ((with_reducible show wpList _ _ _ (Oper.mk _ (Op.call { callee := Callee.builtin Builtin.append, args := _, argTypes := #[64, 64] }) _ _ _ _ :: _) _ _); go_must (refine Lib.wpList_append_run _ rfl _ _ 64 64 rfl _ _ rfl rfl _ _ hap2 ?_))
      go_ret
      obtain ⟨ρ5, G5, r1, r2, r3⟩ := res.out
      exact ⟨_, rfl, ρ5, G5, r1, r2, r3⟩
end Wb
end Go.Proofs.YtfddkmkibfmmgaaDoor

namespace Go.Proofs.YtfddkmkibfmmgaaDoor
namespace Wb
open Go.RowKit
def KS (ρ : Rol) (x : Value) : Nat → Prop := fun k => (∃ r, ρ k = some r) ∨ x.ownBlock = some k
/-- new roles: a block that had one, the list's, or a new one -/
def Nw (w : World) (ρ : Rol) (x : Value) (ρ' : Rol) : Prop := ∀ k r, ρ' k = some r → KS ρ x k ∨ w.heap.size ≤ k
theorem getSnoc {α : Type} {l : List α} {x y : α} {i : Nat} (h : (l ++ [x])[i]? = some y) : (i < l.length ∧ l[i]? = some y) ∨ (i = l.length ∧ y = x) := by
  by_cases hi : i < l.length
  · rw [List.getElem?_append_left hi] at h
    exact .inl ⟨hi, h⟩
  · have hl := (List.getElem?_eq_some_iff.1 h).1
    simp at hl
    have hm : i = l.length := by omega
    subst hm
    rw [List.getElem?_append_right (Nat.le_refl _), Nat.sub_self] at h
    exact .inr ⟨rfl, (Option.some.inj h).symm⟩
/-- new roles alone: what was, is -/
structure Ad (X : Nat) (w : World) (ρ : Rol) (w' : World) (ρ' : Rol) (o : Nat) : Prop where
  size : w.heap.size ≤ w'.heap.size
  old : ∀ k r, ρ k = some r → ¬ r.lst o → w'.heap[k]? = w.heap[k]?
  ext : ∀ k r, ρ k = some r → ρ' k = some r
  new : ∀ k r, ρ' k = some r → ρ k = some r ∨ (r.lst o ∧ X ≤ k ∧ k < w'.heap.size)
/-- one more list is kept untouched -/
theorem Lst.push {w w' : World} {X o lo b2 : Nat} {ρ : Rol} {v v' x : Value} {us : List Value} {Ls : List (List Value)} {L : List Value} (h : Lst w X ρ o lo v us Ls) (hlt : Lt w X ρ) (hg : Grow w w' v v') (ho : Own w' X v' (us ++ [x])) (hx : Own w b2 x L) (hb2 : X ≤ b2) (hL : L.length ≤ 1100000) (hf : ∀ g, x.ownBlock = some g → ρ g = none) :
    ∃ ρ', Lst w' X ρ' o lo v' (us ++ [x]) (Ls ++ [L]) ∧ Ad X w ρ w' ρ' o ∧ Nw w ρ x ρ' := by
  have hxl : ∀ g, x.ownBlock = some g → g < w.heap.size := hx.lt
  have hnew : ∀ k, v'.ownBlock = some k → ρ k = some (.fld o) ∨ (ρ k = none ∧ w.heap.size ≤ k) := fun k hk => by
    rcases hg.alt with e | ⟨e, _⟩
    · exact .inl (h.rl k (e ▸ hk))
    · refine .inr ⟨?_, e k hk⟩
      cases hr : ρ k with
      | none => rfl
      | some r => have := (hlt k r hr).2; have := e k hk; omega
  have hvx : ∀ k, v'.ownBlock = some k → x.ownBlock ≠ some k := fun k h1 h2 => by
    rcases hnew k h1 with e | ⟨_, e⟩
    · rw [hf k h2] at e; cases e
    · have := hxl k h2; omega
  have hxv : ∀ k, x.ownBlock = some k → v.ownBlock ≠ some k := fun k h1 h2 => by
    have := h.rl k h2
    rw [hf k h1] at this; cases this
  obtain ⟨ρ', hρ⟩ : ∃ ρ' : Rol, ∀ k, ρ' k = if v'.ownBlock = some k then some (.fld o) else if x.ownBlock = some k then some (.ls o us.length) else ρ k := ⟨fun k => if v'.ownBlock = some k then some (.fld o) else if x.ownBlock = some k then some (.ls o us.length) else ρ k, fun k => rfl⟩
  have hext : ∀ k r, ρ k = some r → ρ' k = some r := fun k r hr => by
    rw [hρ]
    split
    · rename_i e
      rcases hnew k e with e' | ⟨e', _⟩
      · rw [← e']; exact hr
      · rw [e'] at hr; cases hr
    · split
      · rename_i e
        rw [hf k e] at hr; cases hr
      · exact hr
  have hold : ∀ k r, ρ k = some r → ¬ r.lst o → w'.heap[k]? = w.heap[k]? := fun k r hr hn => hg.old k (hlt k r hr).2 fun e => by
    rw [h.rl k e] at hr
    obtain rfl := Option.some.inj hr
    exact hn rfl
  refine ⟨ρ', ⟨ho, fun k hk => by rw [hρ, if_pos hk], by simp [h.len], fun k u M h0 h1 h2 => ?_⟩, ⟨hg.size, hold, hext, fun k r hr => ?_⟩, fun k r hr => ?_⟩
  · rcases getSnoc h1 with ⟨hi, k1⟩ | ⟨hi, k1⟩
    · rw [List.getElem?_append_left (by rw [← h.len]; exact hi)] at h2
      obtain ⟨o1, o2, o3⟩ := h.each k u M h0 k1 h2
      refine ⟨o1.kept hg.size fun g hv => hg.old g (o1.lt g hv) fun e => ?_, o2, fun g hv => hext g _ (o3 g hv)⟩
      have := h.rl g e
      rw [o3 g hv] at this; cases this
    · subst k1
      rw [hi, h.len, List.getElem?_append_right (Nat.le_refl _), Nat.sub_self] at h2
      obtain rfl := Option.some.inj h2
      refine ⟨(hx.mono hb2).kept hg.size fun g hv => hg.old g (hxl g hv) (hxv g hv), hL, fun g hv => ?_⟩
      rw [hρ, if_neg fun e => hvx g e hv, if_pos hv, hi]
  · rw [hρ] at hr
    split at hr
    · rename_i e
      obtain rfl := Option.some.inj hr
      exact .inr ⟨rfl, ho.ge k e, ho.lt k e⟩
    · split at hr
      · rename_i e
        obtain rfl := Option.some.inj hr
        exact .inr ⟨rfl, Nat.le_trans hb2 (hx.ge k e), Nat.lt_of_lt_of_le (hxl k e) hg.size⟩
      · exact .inl hr
  · rw [hρ] at hr
    split at hr
    · rename_i e
      rcases hnew k e with e' | ⟨_, e'⟩
      · exact .inl (.inl ⟨_, e'⟩)
      · exact .inr e'
    · split at hr
      · rename_i e
        exact .inl (.inr e)
      · exact .inl (.inl ⟨_, hr⟩)
theorem Fam.ad {w w' : World} {X f o : Nat} {ρ ρ' : Rol} {mv : Nat → Value} {v : Value} {GS : List Value} (h : Fam w X ρ f mv v GS) (ha : Ad X w ρ w' ρ' o) (hne : o ≠ f) : Fam w' X ρ' f mv v GS :=
  h.keep ha.size (fun k r hr hf => ⟨ha.old k r hr (Ro.fam_lst hne hf), ha.ext k r hr⟩) fun g i l e => by
    rcases ha.new g _ e with e' | ⟨e', _⟩
    · exact e'
    · exact e'.elim
theorem Lst.ad {w w' : World} {X p lo o : Nat} {ρ ρ' : Rol} {v : Value} {us : List Value} {Ls : List (List Value)} (h : Lst w X ρ p lo v us Ls) (ha : Ad X w ρ w' ρ' o) (hne : p ≠ o) : Lst w' X ρ' p lo v us Ls :=
  h.keep ha.size fun k r hr hf => ⟨ha.old k r hr (Ro.lst_ne hne hf), ha.ext k r hr⟩
theorem Ad.lt {X : Nat} {w w' : World} {ρ ρ' : Rol} {o : Nat} (h : Ad X w ρ w' ρ' o) (l : Lt w X ρ) : Lt w' X ρ' := fun k r hr => by
  rcases h.new k r hr with e | ⟨_, h1, h2⟩
  · exact ⟨(l k r e).1, Nat.lt_of_lt_of_le (l k r e).2 h.size⟩
  · exact ⟨h1, h2⟩
/-- what the world has besides its trees -/
structure BS where
  (p0 p1 x0 x1 vT v2 v3 : Value)
  (kp : Bool)
  (GT u2 u3 : List Value)
  (L2 L3 : List (List Value))
  (o2 : Nat)
def mvT (i : Nat) : Value := sv (mrk i)
structure Bk (w : World) (X : Nat) (ρ : Rol) (S : BS) : Prop where
  row : w.heap[X]? = some (.cells #[S.p0, S.p1, S.x0, S.x1, S.vT, S.v2, S.v3, .bool S.kp] 66 (0, 0))
  rX : ρ X = some .book
  lt : Lt w X ρ
  T : Fam w X ρ 1 mvT S.vT S.GT
  f2 : Lst w X ρ 2 S.o2 S.v2 S.u2 S.L2
  f3 : Lst w X ρ 3 0 S.v3 S.u3 S.L3
theorem Bk.same {w w' : World} {X : Nat} {ρ : Rol} {S : BS} (h : Bk w X ρ S) (hs : w.heap.size ≤ w'.heap.size) (hk : ∀ k r, ρ k = some r → w'.heap[k]? = w.heap[k]?) : Bk w' X ρ S :=
  ⟨(hk X _ h.rX).trans h.row, h.rX, fun k r hr => ⟨(h.lt k r hr).1, Nat.lt_of_lt_of_le (h.lt k r hr).2 hs⟩, h.T.keep hs (fun k r hr _ => ⟨hk k r hr, hr⟩) (fun _ _ _ e => e),
    h.f2.keep hs (fun k r hr _ => ⟨hk k r hr, hr⟩), h.f3.keep hs (fun k r hr _ => ⟨hk k r hr, hr⟩)⟩
theorem Bk.below {w w' : World} {X : Nat} {ρ : Rol} {S : BS} (h : Bk w X ρ S) (hb : Below w.heap.size w w') : Bk w' X ρ S := h.same hb.size fun k r hr => hb.block k (h.lt k r hr).2
/-- what is touched beside the book leaves it as it is -/
theorem Bk.keep {w w' : World} {X : Nat} {ρ : Rol} {S : BS} {F : Nat → Prop} (h : Bk w X ρ S) (hk : Keep F w w') (hd : ∀ k r, ρ k = some r → ¬ F k) : Bk w' X ρ S := h.same hk.size fun k r hr => hk.block k (h.lt k r hr).2 (hd k r hr)
/-- a list that came out has no role yet -/
theorem Bk.fresh {w w' : World} {X b2 : Nat} {ρ : Rol} {S : BS} (h : Bk w X ρ S) {x : Value} {L : List Value} (hx : Own w' b2 x L) (hb : w.heap.size ≤ b2) : ∀ g, x.ownBlock = some g → ρ g = none := fun g hg => by
  cases hr : ρ g with
  | none => rfl
  | some r => have := (h.lt g r hr).2; have := hx.ge g hg; omega
/-- a list that is marked comes into a family -/
theorem Bk.adopt {w : World} {X b2 f i l : Nat} {ρ : Rol} {S : BS} (h : Bk w X ρ S) {x : Value} {mv : Nat → Value} (hm1 : f = 1 → mv = mvT) (hx : Own w b2 x (List.replicate l (mv i))) (hb2 : X ≤ b2) (hfr : ∀ g, x.ownBlock = some g → ρ g = none) :
    ∃ ρ', Bk w X ρ' S ∧ Xs w X ρ' f mv i l x ∧ ∀ k r, ρ' k = some r → ρ k = some r ∨ x.ownBlock = some k := by
  obtain ⟨ρ', hρ⟩ : ∃ ρ' : Rol, ∀ k, ρ' k = if x.ownBlock = some k then some (.mk f i l) else ρ k := ⟨fun k => if x.ownBlock = some k then some (.mk f i l) else ρ k, fun k => rfl⟩
  have hext : ∀ k r, ρ k = some r → ρ' k = some r := fun k r hr => by
    rw [hρ, if_neg fun e => by rw [hfr k e] at hr; cases hr]; exact hr
  have hfam : ∀ (g : Nat) (mv' : Nat → Value) (v : Value) (GS : List Value), (g = f → mv' = mv) → Fam w X ρ g mv' v GS → Fam w X ρ' g mv' v GS := fun g mv' v GS hg hF => by
    refine ⟨hF.own, fun k hk => hext k _ (hF.rl k hk), fun k i2 l2 hm j hj => ?_, fun n s hs => ?_⟩
    · rw [hρ] at hm
      split at hm
      · rename_i e
        injection hm with hm
        injection hm with e0 e1 e2
        subst e1 e2
        rw [hg e0.symm]
        exact own_cell hx e (by rw [List.getElem?_replicate, if_pos hj])
      · exact hF.mkd k i2 l2 hm j hj
    · rcases hF.ent n s hs with e | ⟨g', m, c, l', e1, e2, e3, e4⟩
      · exact .inl e
      · exact .inr ⟨g', m, c, l', e1, e2, e3, hext g' _ e4⟩
  have hk : ∀ (o : Nat) (k : Nat) (r : Ro), ρ k = some r → r.lst o → w.heap[k]? = w.heap[k]? ∧ ρ' k = some r := fun o k r hr _ => ⟨rfl, hext k r hr⟩
  refine ⟨ρ', ⟨h.row, hext X _ h.rX, fun k r hr => ?_, hfam 1 mvT _ _ (fun e => (hm1 e.symm).symm) h.T, h.f2.keep (Nat.le_refl _) (hk 2), h.f3.keep (Nat.le_refl _) (hk 3)⟩, ⟨hx.mono hb2, fun g hg => by rw [hρ, if_pos hg]⟩, fun k r hr => ?_⟩
  · rw [hρ] at hr
    split at hr
    · rename_i e
      exact ⟨Nat.le_trans hb2 (hx.ge k e), hx.lt k e⟩
    · exact h.lt k r hr
  · rw [hρ] at hr
    split at hr
    · rename_i e
      exact .inr e
    · exact .inl hr
theorem setX_block (w : World) (X o : Nat) (y : Value) {k : Nat} (hk : k ≠ X) : (w.setCell ⟨X, o, none⟩ y).heap[k]? = w.heap[k]? := Below.heap_setCell w _ y k hk
theorem setX_size (w : World) (X o : Nat) (y : Value) : (w.setCell ⟨X, o, none⟩ y).heap.size = w.heap.size := by simp [World.setCell]
theorem Fam.setX {w : World} {X f : Nat} {ρ : Rol} {mv : Nat → Value} {v : Value} {GS : List Value} (h : Fam w X ρ f mv v GS) (hX : ρ X = some .book) (o : Nat) (y : Value) : Fam (w.setCell ⟨X, o, none⟩ y) X ρ f mv v GS :=
  h.keep (by rw [setX_size]; exact Nat.le_refl _) (fun k r hr hf => ⟨setX_block w X o y fun e => by rw [e, hX] at hr; obtain rfl := Option.some.inj hr; exact hf, hr⟩) fun _ _ _ e => e
theorem Lst.setX {w : World} {X p lo : Nat} {ρ : Rol} {v : Value} {us : List Value} {Ls : List (List Value)} (h : Lst w X ρ p lo v us Ls) (hX : ρ X = some .book) (o : Nat) (y : Value) : Lst (w.setCell ⟨X, o, none⟩ y) X ρ p lo v us Ls :=
  h.keep (by rw [setX_size]; exact Nat.le_refl _) fun k r hr hf => ⟨setX_block w X o y fun e => by rw [e, hX] at hr; obtain rfl := Option.some.inj hr; exact hf, hr⟩
theorem Lt.setX {w : World} {X : Nat} {ρ : Rol} (h : Lt w X ρ) (o : Nat) (y : Value) : Lt (w.setCell ⟨X, o, none⟩ y) X ρ := fun k r hr => by rw [setX_size]; exact h k r hr
theorem Bk.pushed2 {w w' : World} {X : Nat} {ρ ρ' : Rol} {S : BS} {v' : Value} {us : List Value} {Ls : List (List Value)} (h : Bk w X ρ S) (F : Lst w' X ρ' 2 S.o2 v' us Ls) (A : Ad X w ρ w' ρ' 2) : w'.heap[X]? = w.heap[X]? ∧ Bk (w'.setCell ⟨X, 5, none⟩ v') X ρ' { S with v2 := v', u2 := us, L2 := Ls } := by
  have e1 := A.old X _ h.rX (fun e => e)
  have rX := A.ext X _ h.rX
  exact ⟨e1, ⟨heap_setCell_same w' X 5 _ _ v' (e1.trans h.row), rX, (A.lt h.lt).setX _ _, (h.T.ad A (by decide)).setX rX _ _, F.setX rX _ _, (h.f3.ad A (by decide)).setX rX _ _⟩⟩
theorem Bk.pushed3 {w w' : World} {X : Nat} {ρ ρ' : Rol} {S : BS} {v' : Value} {us : List Value} {Ls : List (List Value)} (h : Bk w X ρ S) (F : Lst w' X ρ' 3 0 v' us Ls) (A : Ad X w ρ w' ρ' 3) : w'.heap[X]? = w.heap[X]? ∧ Bk (w'.setCell ⟨X, 6, none⟩ v') X ρ' { S with v3 := v', u3 := us, L3 := Ls } := by
  have e1 := A.old X _ h.rX (fun e => e)
  have rX := A.ext X _ h.rX
  exact ⟨e1, ⟨heap_setCell_same w' X 6 _ _ v' (e1.trans h.row), rX, (A.lt h.lt).setX _ _, (h.T.ad A (by decide)).setX rX _ _, (h.f2.ad A (by decide)).setX rX _ _, F.setX rX _ _⟩⟩
theorem Bk.grownT {w w' : World} {X : Nat} {ρ ρ' : Rol} {S : BS} {v' : Value} {G' : List Value} (h : Bk w X ρ S) (F : Fam w' X ρ' 1 mvT v' G') (M : Mv 1 X w ρ w' ρ') : w'.heap[X]? = w.heap[X]? ∧ Bk (w'.setCell ⟨X, 4, none⟩ v') X ρ' { S with vT := v', GT := G' } := by
  obtain ⟨e1, e2⟩ := M.kept h.lt h.rX (fun e => e)
  exact ⟨e1, ⟨heap_setCell_same w' X 4 _ _ v' (e1.trans h.row), e2, (M.lt h.lt).setX _ _, F.setX e2 _ _, (h.f2.mv M (by decide) h.lt).setX e2 _ _, (h.f3.mv M (by decide) h.lt).setX e2 _ _⟩⟩
end Wb
end Go.Proofs.YtfddkmkibfmmgaaDoor
