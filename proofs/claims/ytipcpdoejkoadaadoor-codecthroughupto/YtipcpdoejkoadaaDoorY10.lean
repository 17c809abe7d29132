import Derived.Test.YtipcpdoejkoadaaDoorY9
namespace Go.Proofs.YtipcpdoejkoadaaDoor
open Go.RowKit Cod

theorem rise_len_any : ∀ (L : List Nat) (a : Nat), (∀ n ∈ L, n ≤ 9223372036854775807) → (wrRise a L).length ≤ 10 * L.length
  | [], _, _ => by simp [wrRise]
  | n :: L, a, h => by
    have h1 := h n (by simp)
    have := rise_len_any L (n + 1) (fun u hu => h u (by simp [hu]))
    have e : 128 ^ (9 + 1) = 1180591620717411303424 := by decide
    have := digs_len 9 (n - a) (by rw [e]; omega)
    rw [wrRise, List.length_append, List.length_cons]
    omega
theorem rising_len_any (l : List Int) (hb : ∀ c ∈ l, -9223372036854775808 ≤ c ∧ c ≤ 9223372036854775807) (hl : l.length ≤ 100000000) : (wrRising (l.map Int.toNat)).length ≤ 10 + 10 * l.length := by
  have h1 := rise_len_any (l.map Int.toNat) 0 (fun n hn => by
    obtain ⟨c, hc, rfl⟩ := List.mem_map.1 hn
    have := hb c hc
    omega)
  rw [List.length_map] at h1
  have := digs_len9 (n := l.length) (by omega)
  rw [wrRising, List.length_append, List.length_map]
  omega
theorem SlcV.keepN {K : Nat → Prop} {w w' : World} {v : Value} {cs : List Value} (h : SlcV w v cs) (hb : Keep K w w') (ha : ∀ x n c, v = .slice (some x) n c → cs ≠ [] → ¬ K x.block) : SlcV w' v cs := by
  obtain ⟨a, cap, rfl, h⟩ := h
  refine ⟨a, cap, rfl, fun j p hp => ?_⟩
  obtain ⟨x, rfl, hx, hc⟩ := h j p hp
  refine ⟨x, rfl, Nat.lt_of_lt_of_le hx hb.size, ?_⟩
  rw [World.cell?_of_block (w := w) (by rw [add_block]; exact hb.block x.block hx (ha x _ _ rfl (fun e => by rw [e] at hp; simp at hp)))]; exact hc
theorem ivs_one {l : List Int} : ∀ u ∈ ivs l, u.oneCell' = true := fun u hu => by
  obtain ⟨n, _, rfl⟩ := List.mem_map.1 hu; rfl
theorem svs_one {l : List (List UInt8)} : ∀ u ∈ svs l, u.oneCell' = true := fun u hu => by
  obtain ⟨n, _, rfl⟩ := List.mem_map.1 hu; rfl
theorem ivs_len (l : List Int) : (ivs l).length = l.length := by simp [ivs]
theorem slcI_nil (w : World) (n c : Nat) (h : n = 0) : SlcI w (.slice none n c) [] := ⟨none, c, by rw [h]; rfl, fun j c hc => by simp at hc⟩
theorem slcT_nil (w : World) (n c : Nat) (h : n = 0) : Slc w (.slice none n c) [] := ⟨none, c, by rw [h]; rfl, fun j c hc => by simp at hc⟩
theorem apart_nil (n c : Nat) (K : Nat → Prop) : Apart (.slice none n c) K := fun _ _ _ h => by cases h
theorem Lent.apart {w : World} {B g cap n : Nat} {cs : List Value} (_ : Lent w B g cap cs) {K : Nat → Prop} (hK : ¬ K g) : Apart (.slice (some ⟨g, 0, none⟩) n cap) K := fun x _ _ h => by cases h; exact hK
/-- three times each number -/
def tr (k : Nat) : List Nat := (List.range k).map (3 * ·)
theorem tr_len (k : Nat) : (tr k).length = k := by simp [tr]
theorem tr_succ (k : Nat) : tr (k + 1) = tr k ++ [3 * k] := by simp [tr, List.range_succ]
theorem nvs_ivs (L : List Nat) : nvs L = ivs (ints L) := by simp [nvs, ivs, ints]
theorem mix_set (A : List Value) (R : List Value) (k : Nat) (u : Value) (hA : A.length = k) (hk : k < R.length) : (A ++ R.drop k).set k u = (A ++ [u]) ++ R.drop (k + 1) := by
  rw [List.set_append_right _ _ (by omega), hA, Nat.sub_self, List.drop_eq_getElem_cons hk, List.set_cons_zero, List.append_assoc]
  rfl
theorem mix_get (A : List Value) (R : List Value) (k : Nat) (hA : A.length = k) (hk : k < R.length) : (A ++ R.drop k)[k]? = some R[k] := by
  rw [List.getElem?_append_right (by omega), hA, Nat.sub_self, List.drop_eq_getElem_cons hk]
  rfl
theorem mix_len (A : List Value) (R : List Value) (k : Nat) (hA : A.length = k) (hk : k ≤ R.length) : (A ++ R.drop k).length = R.length := by
  rw [List.length_append, List.length_drop]; omega

set_option maxRecDepth 100000 in
set_option maxHeartbeats 4000000 in
theorem step3 (B WB XB : Nat) (hB : 1 ≤ B) (v : Value) (ws : WSt) (S : List UInt8) (E : Int) (o kp : Bool) (n m : Int) (s : ByteArray) (lv tv : Value) (w : World) (l : List Int) (hsl : SlcI w lv l) (hlb : ∀ c ∈ l, -9223372036854775808 ≤ c ∧ c ≤ 9223372036854775807) (hll : l.length ≤ 1100000) (hlo : ∀ x nn c, lv = .slice (some x) nn c → l ≠ [] → x.block < B) (hL : Lay w) (T : Twin w B WB XB v ws S E) (hS : S.length ≤ 100000000000) :
    Calls Tryd.prog 37 #[pV WB XB, oV o kp 3 n m s lv tv] w (SPost w B WB XB v S) := by
  have D0 := hid (Way.start T hL #[.bool o, .bool kp, .int .i64 3, .int .i64 n, .int .i64 m, .string s, lv, tv])
  obtain ⟨p0a, p1a, o1a, o2a, o3a, o4a, o5a, o6a, o7a⟩ := D0.out.bx.cells
  have hBw := T.sz
  clear T hL
  have hV1 := hid (hsl.toV.keepN D0.out.kp (fun x nn c h1 h2 h3 => by have := hlo x nn c h1 (fun e => h2 (by rw [e]; rfl)); have := D0.out.ge _ h3; omega))
  have HLB := hid hlb
  have HLO := hid hlo
  have hrl := rising_len_any l hlb (by omega)
  clear hsl hlb hlo
  go_enter Tryd.func37, Tryd.ntmps37
  go_wp2_with (go_at_call 75; fail)
  go_at_call 75
  refine (lentInts_any lv (ivs l) _ hV1.out ivs_one (by rw [ivs_len]; omega)).mono ?_
  rintro z w2 ⟨u, rfl, la, b2⟩
  rcases la with ⟨nn, c, rfl, rfl, hcs⟩ | ⟨⟨x, nn, c, rfl⟩, g, cap, rfl, hle⟩
  · have hl0 : l = [] := by cases l with
      | nil => rfl
      | cons a r => cases hcs
    subst hl0
    have D2 := hid (D0.out.below b2)
    obtain ⟨p0c, p1c, o1c, o2c, o3c, o4c, o5c, o6c, o7c⟩ := D2.out.bx.cells
    have hn0 : nn = 0 := by
      obtain ⟨_, _, hh, _⟩ := hV1.out
      injection hh
    subst hn0
    clear b2
    go_wp2_with (go_at_call 20; fail)
    go_at_call 20
    refine (wRising_any B WB _ _ _ ([]) (HLB.out) (by simp) _ (slcI_nil _ 0 0 rfl) (apart_nil _ _ _) D2.out.tw.wri D2.out.tw.sz (D2.out.tw.len (by omega))).mono ?_
    rintro z w3h ⟨rfl, vd, g1, g2, g3⟩
    have Xd := hid (D2.out.tw.mid g2 g1)
    have bd := D2.out.half g2
    have G1d := hid g1
    have G2d := hid g2
    have G3d := hid g3
    obtain ⟨p0d, p1d, o1d, o2d, o3d, o4d, o5d, o6d, o7d⟩ := bd.cells
    clear g1 g2 g3 bd
    go_wp2_with (go_at_call 76; fail)
    go_at_call 76
    refine (xRising_any XB S E _ ([]) (HLB.out) (by simp) _ (slcI_nil _ 0 _ rfl) Xd.out (by omega)).mono ?_
    intro z w3 hp
    have D3 := hid (D2.out.both hB G1d.out G2d.out G3d.out hp)
    obtain ⟨rfl, _, _⟩ := hp
    obtain ⟨p0dx, p1dx, o1dx, o2dx, o3dx, o4dx, o5dx, o6dx, o7dx⟩ := D3.out.bx.cells
    obtain ⟨S3, E3, ws3, hS3, D4⟩ : ∃ (S3 : List UInt8) (E3 : Int) (ws3 : WSt), Hid (S3.length ≤ S.length + (wrRising (([] : List Int).map Int.toNat)).length) ∧ Hid (Way _ w B WB XB v #[.bool o, .bool kp, .int .i64 3, .int .i64 n, .int .i64 m, .string s, .slice none 0 c, tv] w3 vd ws3 S3 E3) := ⟨_, _, _, hid (put_len _ _ _), D3⟩
    clear D3
    have hS3' := hS3.out
    go_wp2_with (go_at_call 77; fail)
    go_at_call 77
    refine (asInts_nil _ 0 c w3).mono ?_
    rintro z w' ⟨rfl, hw'⟩; rw [hw']; clear hw' w'
    cases kp with
    | false =>
      obtain ⟨tb, htb⟩ : ∃ tb, Hid (sv (if E3 = 0 then S3 else []) = .string tb) := ⟨_, rfl⟩
      obtain ⟨ee, hee⟩ : ∃ ee : Int, Hid (E3 = ee) := ⟨_, rfl⟩
      have yt : (tb.toList == tb.toList) = true := by simp
      have ye : (ee == ee) = true := by simp
      go_wp2_with (go_at_call 31; fail)
      go_at_call 31
      refine (wDone_any B WB _ _ w3 D4.out.lay D4.out.tw.wri).mono ?_
      rw [← rel_text D4.out.tw.rel, ← D4.out.tw.rel.1, htb.out, hee.out]
      rintro z we ⟨rfl, q1⟩
      have De := hid (D4.out.below q1)
      obtain ⟨p0e, p1e, o1e, o2e, o3e, o4e, o5e, o6e, o7e⟩ := De.out.bx.cells
      clear q1
      go_wp2_with (go_at_call 38; fail)
      go_at_call 38
      refine (xDone_any XB _ _ we De.out.tw.rw).mono ?_
      rw [htb.out, hee.out]
      rintro z wf ⟨rfl, q2⟩
      have Df := hid (De.out.below q2)
      clear q2
      go_wp2
      go_ret
      exact Df.out.post (by omega)
    | true =>
      go_wp2
      refine wp_loop_rounds 1 ?_
      rw [rounds_succ]
      go_wp2_with (go_at_call 20; fail)
      go_at_call 20
      refine (wRising_any B WB _ _ _ ([]) (HLB.out) (by simp) _ (slcI_nil _ 0 0 rfl) (apart_nil _ _ _) D4.out.tw.wri D4.out.tw.sz (D4.out.tw.len (by omega))).mono ?_
      rintro z w5h ⟨rfl, vf, g1, g2, g3⟩
      have Xf := hid (D4.out.tw.mid g2 g1)
      have bf := D4.out.half g2
      have G1f := hid g1
      have G2f := hid g2
      have G3f := hid g3
      obtain ⟨p0f, p1f, o1f, o2f, o3f, o4f, o5f, o6f, o7f⟩ := bf.cells
      clear g1 g2 g3 bf
      go_wp2_with (go_at_call 76; fail)
      go_at_call 76
      refine (xRising_any XB S3 E3 _ ([]) (HLB.out) (by simp) _ (slcI_nil _ 0 0 rfl) Xf.out (by omega)).mono ?_
      intro z w5 hp
      have D5 := hid (D4.out.both hB G1f.out G2f.out G3f.out hp)
      obtain ⟨rfl, _, _⟩ := hp
      obtain ⟨p0fx, p1fx, o1fx, o2fx, o3fx, o4fx, o5fx, o6fx, o7fx⟩ := D5.out.bx.cells
      obtain ⟨S5, E5, ws5, hS5, D6⟩ : ∃ (S5 : List UInt8) (E5 : Int) (ws5 : WSt), Hid (S5.length ≤ S3.length + (wrRising (([] : List Int).map Int.toNat)).length) ∧ Hid (Way _ w B WB XB v #[.bool o, .bool true, .int .i64 3, .int .i64 n, .int .i64 m, .string s, .slice none 0 c, tv] w5 vf ws5 S5 E5) := ⟨_, _, _, hid (put_len _ _ _), D5⟩
      clear D5
      have hS5' := hS5.out
      obtain ⟨tb, htb⟩ : ∃ tb, Hid (sv (if E5 = 0 then S5 else []) = .string tb) := ⟨_, rfl⟩
      obtain ⟨ee, hee⟩ : ∃ ee : Int, Hid (E5 = ee) := ⟨_, rfl⟩
      have yt : (tb.toList == tb.toList) = true := by simp
      have ye : (ee == ee) = true := by simp
      go_wp2_with (go_at_call 31; fail)
      go_at_call 31
      refine (wDone_any B WB _ _ w5 D6.out.lay D6.out.tw.wri).mono ?_
      rw [← rel_text D6.out.tw.rel, ← D6.out.tw.rel.1, htb.out, hee.out]
      rintro z we ⟨rfl, q1⟩
      have De := hid (D6.out.below q1)
      obtain ⟨p0e, p1e, o1e, o2e, o3e, o4e, o5e, o6e, o7e⟩ := De.out.bx.cells
      clear q1
      go_wp2_with (go_at_call 38; fail)
      go_at_call 38
      refine (xDone_any XB _ _ we De.out.tw.rw).mono ?_
      rw [htb.out, hee.out]
      rintro z wf ⟨rfl, q2⟩
      have Df := hid (De.out.below q2)
      clear q2
      go_wp2
      go_ret
      exact Df.out.post (by omega)
  · have hg1 := hle.lt
    have D2 := hid (D0.out.add b2 hg1.1 hg1.2)
    obtain ⟨p0c, p1c, o1c, o2c, o3c, o4c, o5c, o6c, o7c⟩ := D2.out.bx.cells
    have hV2 := hid (hV1.out.keepN (K := fun _ => False) (Keep.ofBelow b2) (fun _ _ _ _ _ h => h))
    have hgP : g ≠ w.heap.size ∧ g ≠ w.heap.size + 1 := by
      have h1 := lt_of_heap D0.out.bx.rO
      have h2 := hg1.1
      constructor <;> omega
    have hnn : nn = l.length := by
      obtain ⟨_, _, hh, _⟩ := hV1.out
      injection hh with _ e2 _
      rw [e2, ivs_len]
    subst hnn
    have hSu : SlcI w2 (.slice (some ⟨g, 0, none⟩) l.length cap) l := by
      have hh := hle.slcV l.length (by rw [List.length_append, ivs_len]; omega)
      rw [List.take_left' (ivs_len l)] at hh
      exact hh.toI
    have HSu := hid hSu
    have hxg : l ≠ [] → x.block ≠ g := fun h => by
      have h1 := HLO.out x _ c rfl h
      have h2 := (D2.out.hi g (.inr rfl)).2.2
      omega
    have HXG := hid hxg
    obtain ⟨B2, hB2⟩ : ∃ B2, Hid (Lent w2 B2 g cap (ivs l ++ [Value.int .i64 (-7), Value.int .i64 (-7), Value.int .i64 (-7), Value.int .i64 (-7)])) := ⟨_, hle⟩
    have hlow : ∀ (K : Nat → Prop), (∀ k, K k → B ≤ k) → ∀ x' n' c', Value.slice (some x) l.length c = .slice (some x') n' c' → ivs l ≠ [] → ¬ K x'.block := fun K hK x' n' c' he hne hk => by
      cases he
      have h1 := HLO.out x _ c rfl (fun e => hne (by rw [e]; rfl))
      have h2 := hK _ hk
      omega
    have HLW := hid hlow
    rw [ivs_len]
    clear b2 hle hg1 hSu hxg hlow
    go_wp2_with (go_at_call 20; fail)
    go_at_call 20
    refine (wRising_any B WB _ _ _ (l) (HLB.out) (by unfold maxLen; omega) _ (HSu.out) (hB2.out.apart (fun e => (D2.out.hi g (.inr rfl)).1 (.inl e))) D2.out.tw.wri D2.out.tw.sz (D2.out.tw.len (by omega))).mono ?_
    rintro z w3h ⟨rfl, vd, g1, g2, g3⟩
    have Xd := hid (D2.out.tw.mid g2 g1)
    have bd := D2.out.half g2
    have G1d := hid g1
    have G2d := hid g2
    have G3d := hid g3
    obtain ⟨p0d, p1d, o1d, o2d, o3d, o4d, o5d, o6d, o7d⟩ := bd.cells
    clear g1 g2 g3 bd
    go_wp2_with (go_at_call 76; fail)
    go_at_call 76
    refine (xRising_any XB S E _ (l) (HLB.out) (by omega) _ ((hV2.out.keepN G2d.out (HLW.out _ (fun k hk => (D2.out.tw.ge k (.inl hk)).1))).toI) Xd.out (by omega)).mono ?_
    intro z w3 hp
    have D3 := hid (D2.out.both hB G1d.out G2d.out G3d.out hp)
    have k3 := (D2.out.tw.both G1d.out G2d.out G3d.out hp).2.1
    have HL3 := hid (hB2.out.keep k3 (D2.out.hi g (.inr rfl)).1)
    have hV3 := hid (hV2.out.keepN k3 (HLW.out _ (fun k hk => (D2.out.tw.ge k hk).1)))
    clear k3
    obtain ⟨rfl, _, _⟩ := hp
    obtain ⟨p0dx, p1dx, o1dx, o2dx, o3dx, o4dx, o5dx, o6dx, o7dx⟩ := D3.out.bx.cells
    obtain ⟨S3, E3, ws3, hS3, D4⟩ : ∃ (S3 : List UInt8) (E3 : Int) (ws3 : WSt), Hid (S3.length ≤ S.length + (wrRising (l.map Int.toNat)).length) ∧ Hid (Way (fun k => (k = w.heap.size ∨ k = w.heap.size + 1) ∨ k = g) w B WB XB v #[.bool o, .bool kp, .int .i64 3, .int .i64 n, .int .i64 m, .string s, .slice (some x) l.length c, tv] w3 vd ws3 S3 E3) := ⟨_, _, _, hid (put_len _ _ _), D3⟩
    clear D3 hB2 hV2 HSu
    have hS3' := hS3.out
    go_wp2_with (go_at_call 77; fail)
    go_at_call 77
    refine (asInts_any l x c B2 g cap (by omega) w3 hV3.out HXG.out HL3.out).mono ?_
    rintro z w4 ⟨rfl, le4, b4⟩
    have D5 := hid (D4.out.but b4 (.inr rfl) hgP.1 hgP.2)
    have HL4 := hid le4
    obtain ⟨p0g, p1g, o1g, o2g, o3g, o4g, o5g, o6g, o7g⟩ := D5.out.bx.cells
    clear b4 le4 D4 HL3
    cases kp with
    | false =>
      obtain ⟨tb, htb⟩ : ∃ tb, Hid (sv (if E3 = 0 then S3 else []) = .string tb) := ⟨_, rfl⟩
      obtain ⟨ee, hee⟩ : ∃ ee : Int, Hid (E3 = ee) := ⟨_, rfl⟩
      have yt : (tb.toList == tb.toList) = true := by simp
      have ye : (ee == ee) = true := by simp
      go_wp2_with (go_at_call 31; fail)
      go_at_call 31
      refine (wDone_any B WB _ _ w4 D5.out.lay D5.out.tw.wri).mono ?_
      rw [← rel_text D5.out.tw.rel, ← D5.out.tw.rel.1, htb.out, hee.out]
      rintro z we ⟨rfl, q1⟩
      have De := hid (D5.out.below q1)
      obtain ⟨p0e, p1e, o1e, o2e, o3e, o4e, o5e, o6e, o7e⟩ := De.out.bx.cells
      clear q1
      go_wp2_with (go_at_call 38; fail)
      go_at_call 38
      refine (xDone_any XB _ _ we De.out.tw.rw).mono ?_
      rw [htb.out, hee.out]
      rintro z wf ⟨rfl, q2⟩
      have Df := hid (De.out.below q2)
      clear q2
      go_wp2
      go_ret
      exact Df.out.post (by omega)
    | true =>
      obtain ⟨BN, hBN⟩ : ∃ BN, w4.heap.size = BN := ⟨_, rfl⟩
      have hgB : g < BN := by rw [← hBN]; exact (D5.out.hi g (.inr rfl)).2.1
      have HPB : Hid (∀ k, (BN ≤ k) → ¬ PS WB XB vd k ∧ ¬ ((k = w.heap.size ∨ k = w.heap.size + 1) ∨ k = g) ∧ w.heap.size ≤ k) := hid (fun k hk => ⟨fun e => by have := (D5.out.tw.ge k e).2; omega, fun e => by have := (D5.out.hi k e).2.1; omega, by have := D5.out.kp.size; omega⟩)
      go_wp2
      go_loopw [7, 8] (fun now i w' => ∃ k : Nat, k ≤ l.length ∧ i = .int .i64 k ∧ Hid (Way (fun k => (k = w.heap.size ∨ k = w.heap.size + 1) ∨ k = g) w B WB XB v #[.bool o, .bool true, .int .i64 3, .int .i64 n, .int .i64 m, .string s, .slice (some x) l.length c, tv] w' vd ws3 S3 E3) ∧ Hid (Lent w' B2 g cap (nvs (tr k) ++ (List.replicate (l.length + 4) (Value.int .i64 9)).drop k)) ∧ Hid (Own w' BN now (nvs (tr k))) ∧ Hid (BN ≤ w'.heap.size)) (fun _ i _ => l.length - (intOf i).toNat)
      case atStart => exact ⟨0, by omega, rfl, D5, hid (by rw [List.drop_zero]; exact HL4.out), hid (Own.nil _ _), hid (by show BN ≤ _; omega)⟩
      case round =>
        obtain ⟨k, hk, rfl, Dk, Lk, Ok, Zk⟩ := hrel
        have hRl : (List.replicate (l.length + 4) (Value.int .i64 9)).length = l.length + 4 := List.length_replicate
        by_cases hlt : k < l.length
        · have hlt' : (k : Int) < (l.length : Int) := by omega
          have hAl : (nvs (tr k)).length = k := by rw [nvs_length, tr_len]
          obtain ⟨c1, f1⟩ := Lk.out.cell (mix_get (nvs (tr k)) _ k hAl (by omega))
          have L2 := Lk.out.set k (.int .i64 (3 * (k : Int))) (by rw [mix_len _ _ _ hAl (by omega)]; omega)
          rw [mix_set _ _ _ _ hAl (by omega)] at L2
          have e3 : ((3 * k : Nat) : Int) = 3 * (k : Int) := by omega
          have hB2' := (But.refl g wr).setCell k (.int .i64 (3 * (k : Int)))
          have D2' := Dk.out.but hB2' (.inr rfl) hgP.1 hgP.2
          have O2 := Ok.out.but hB2' (fun e => by have := Ok.out.ge g e; omega)
          obtain ⟨v5, w5, hcc, g1, g2, g3⟩ := app_int _ BN _ (tr k) (3 * k) O2 (by rw [tr_len]; omega) (Nat.le_trans Zk.out hB2'.size)
          rw [e3, show (wr.setCell ⟨g, k, none⟩ (Value.int .i64 (3 * (k : Int)))).heap.size = wr.heap.size from by simp [World.setCell]] at hcc
          have hown : ∀ j, OwnS _ j → BN ≤ j := fun j hj => O2.ge j hj
          have DD := hid (D2'.new g2 (fun j hj => HPB.out j (hown j hj)))
          have LL := hid (L2.keep g2 (fun e => by have := hown g e; omega))
          rw [show nvs (tr k) ++ [Value.int .i64 (3 * (k : Int))] = nvs (tr (k + 1)) from by rw [tr_succ, nvs_append, e3]] at LL
          rw [← tr_succ] at g1
          have OO := hid g1
          have ZZ := hid (Nat.le_trans (Nat.le_trans Zk.out hB2'.size) g2.size)
          clear g1 g2 g3 O2 D2' L2 hown hB2'
          go_wp2_with (at_builtin; go_must (refine Lib.wpList_append_run _ rfl _ _ 33 33 rfl _ _ rfl rfl _ _ hcc ?_))
          exact ⟨⟨k + 1, by omega, by go_num, DD, LL, OO, ZZ⟩, by simp [intOf]; omega⟩
        · obtain rfl : k = l.length := by omega
          have hb3 : ∀ c ∈ ints (tr l.length), -9223372036854775808 ≤ c ∧ c ≤ 9223372036854775807 := fun c hc => by
            obtain ⟨q, hq, rfl⟩ := List.mem_map.1 hc
            obtain ⟨j, hj, rfl⟩ := List.mem_map.1 hq
            have := List.mem_range.1 hj
            constructor <;> simp <;> omega
          have hil : (ints (tr l.length)).length = l.length := by rw [ints, List.length_map, tr_len]
          have hrl3 := rising_len_any _ hb3 (by omega)
          rw [hil] at hrl3
          have hSu : SlcI wr (.slice (some ⟨g, 0, none⟩) l.length cap) (ints (tr l.length)) := by
            have hh := Lk.out.slcV l.length (by rw [mix_len _ _ _ (by rw [nvs_length, tr_len]) (by omega)]; omega)
            rw [List.take_left' (by rw [nvs_length, tr_len]), nvs_ivs] at hh
            exact hh.toI
          have HSu := hid hSu
          have HB3 := hid hb3
          obtain ⟨LQ, hLQ⟩ : ∃ LQ, Hid (ints (tr l.length) = LQ) := ⟨_, rfl⟩
          rw [hLQ.out] at HSu HB3 hil hrl3
          have HON : Hid (SlcI wr _ LQ) := hid (by rw [← hLQ.out]; exact Ok.out.slcI)
          have hOge := hid Ok.out.ge
          obtain ⟨oa, oc, onn, hov⟩ := Own.sl Ok.out
          subst hov
          obtain ⟨p0k, p1k, o1k, o2k, o3k, o4k, o5k, o6k, o7k⟩ := Dk.out.bx.cells
          clear hSu hb3
          go_wp2_with (go_at_call 20; fail)
          go_at_call 20
          refine (wRising_any B WB _ _ _ (LQ) (HB3.out) (by unfold maxLen; omega) _ (HSu.out) (Lk.out.apart (fun e => (Dk.out.hi g (.inr rfl)).1 (.inl e))) Dk.out.tw.wri Dk.out.tw.sz (Dk.out.tw.len (by omega))).mono ?_
          rintro z w7h ⟨rfl, vf, g1, g2, g3⟩
          have Xf := hid (Dk.out.tw.mid g2 g1)
          have bf := Dk.out.half g2
          have G1f := hid g1
          have G2f := hid g2
          have G3f := hid g3
          obtain ⟨p0f, p1f, o1f, o2f, o3f, o4f, o5f, o6f, o7f⟩ := bf.cells
          clear g1 g2 g3 bf
          go_wp2_with (go_at_call 76; fail)
          go_at_call 76
          refine (xRising_any XB S3 E3 _ (LQ) (HB3.out) (by omega) _ (HON.out.keep G2f.out (fun y _ _ hy e => by cases hy; exact (HPB.out _ (hOge.out _ rfl)).1 (.inl e))) Xf.out (by omega)).mono ?_
          intro z w7 hp
          have D7 := hid (Dk.out.both hB G1f.out G2f.out G3f.out hp)
          obtain ⟨rfl, _, _⟩ := hp
          obtain ⟨p0fx, p1fx, o1fx, o2fx, o3fx, o4fx, o5fx, o6fx, o7fx⟩ := D7.out.bx.cells
          obtain ⟨S5, E5, ws5, hS5, D8⟩ : ∃ (S5 : List UInt8) (E5 : Int) (ws5 : WSt), Hid (S5.length ≤ S3.length + (wrRising (LQ.map Int.toNat)).length) ∧ Hid (Way (fun k => (k = w.heap.size ∨ k = w.heap.size + 1) ∨ k = g) w B WB XB v #[.bool o, .bool true, .int .i64 3, .int .i64 n, .int .i64 m, .string s, .slice (some x) l.length c, tv] w7 vf ws5 S5 E5) := ⟨_, _, _, hid (put_len _ _ _), D7⟩
          clear D7
          have hS5' := hS5.out
          obtain ⟨tb, htb⟩ : ∃ tb, Hid (sv (if E5 = 0 then S5 else []) = .string tb) := ⟨_, rfl⟩
          obtain ⟨ee, hee⟩ : ∃ ee : Int, Hid (E5 = ee) := ⟨_, rfl⟩
          have yt : (tb.toList == tb.toList) = true := by simp
          have ye : (ee == ee) = true := by simp
          go_wp2_with (go_at_call 31; fail)
          go_at_call 31
          refine (wDone_any B WB _ _ w7 D8.out.lay D8.out.tw.wri).mono ?_
          rw [← rel_text D8.out.tw.rel, ← D8.out.tw.rel.1, htb.out, hee.out]
          rintro z we ⟨rfl, q1⟩
          have De := hid (D8.out.below q1)
          obtain ⟨p0e, p1e, o1e, o2e, o3e, o4e, o5e, o6e, o7e⟩ := De.out.bx.cells
          clear q1
          go_wp2_with (go_at_call 38; fail)
          go_at_call 38
          refine (xDone_any XB _ _ we De.out.tw.rw).mono ?_
          rw [htb.out, hee.out]
          rintro z wf ⟨rfl, q2⟩
          have Df := hid (De.out.below q2)
          clear q2
          go_wp2
          go_ret
          exact Df.out.post (by omega)
end Go.Proofs.YtipcpdoejkoadaaDoor
